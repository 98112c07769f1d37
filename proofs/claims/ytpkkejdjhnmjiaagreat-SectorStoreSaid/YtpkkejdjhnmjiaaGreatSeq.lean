/- A range over a function whose elements are known, one by one: what such a function says of itself, and what a loop over it comes to. -/
import Derived.Test.YtpkkejdjhnmjiaaGreatIn
import Derived.Test.YtpkkejdjhnmjiaaGreatMid
namespace Go.Proofs.YtpkkejdjhnmjiaaGreat
open Go.RowKit Bm
theorem round_in {m m' : Nat} {P : Program} {l : Nat} {ro : Option Nat} {f : FuncId} {tmps : Array Value} {assign body : Code} {w : World} {R : Ending → World → Prop}
    (h : RoundIn Fence.wide m P l f tmps assign body w R) : RoundIn { Fence.wide with round := ro } m' P l f tmps assign body w R := ⟨h.1, fun c cs _ => h.2 c cs (fun d hd => by cases hd)⟩
theorem round_out {m m' : Nat} {P : Program} {l : Nat} {f : FuncId} {tmps : Array Value} {assign body : Code} {w : World} {R : Ending → World → Prop}
    (h : RoundIn Fence.wide m P l f tmps assign body w R) : RoundIn Fence.wide m' P l f tmps assign body w R := ⟨h.1, fun c cs _ => h.2 c cs (fun d hd => by cases hd)⟩
def Others (B l : Nat) (W W' : World) : Prop := ∀ k o, B ≤ k → k ≠ l → W.heap[k]? = some o → o.isCells = false → W'.heap[k]? = some o
theorem Others.from {B B' l : Nat} {W W' : World} (h : Others B l W W') (hl : l < B') (hB : B ≤ B') (hs : W.heap.size ≤ W'.heap.size) : KeepsFrom B' W W' := ⟨hs, fun k o hk ho hc => h k o (by omega) (by omega) ho hc⟩
def SeqI {α : Type} (P : Program) (g : Nat) (lb : Array Value) (encs : α → Array Value) (Kp : World → World → Prop) (xs : List α) (w : World) : Prop :=
  ∀ (fr l : Nat) (J Jx : Nat → World → Prop) (W : World), Below w.heap.size w W → l < W.heap.size → OwnFrom W.heap.size J → OwnFrom W.heap.size Jx →
    (∀ i x W1, xs[i]? = some x → J i W1 → YieldAt Fence.wide 0 P l (encs x) W1 fun e W' => (e = .returned (.bool true) ∧ J (i + 1) W' ∧ Kp W1 W' ∧ Others W.heap.size l W1 W') ∨ (e = .returned (.bool false) ∧ Jx i W' ∧ W1.heap.size ≤ W'.heap.size ∧ Others W.heap.size l W1 W')) →
    J 0 W → CallsIn Fence.wide fr P g (#[.func (.yield l) #[] #[]] ++ lb) W fun e W' => (∃ v, e = .returned v) ∧ (J xs.length W' ∨ ∃ i, i < xs.length ∧ Jx i W')
def postI (B : Nat) (Kp : World → World → Prop) (I : Nat → World → Prop) (Ix : Code → Nat → World → Prop) (i : Nat) (W : World) : Exit → Go.Act → World → Prop
  | .normal, _, W' => KeepsFrom B W W' ∧ Kp W W' ∧ I (i + 1) W'
  | .ret, _, W' => KeepsFrom B W W' ∧ Ix .ret i W'
  | .exit id, _, W' => KeepsFrom B W W' ∧ Ix (.exit id) i W'
  | .goto t, _, W' => KeepsFrom B W W' ∧ Ix (.goto t) i W'
  | .panic _, _, _ => False
  | .outgrown, _, _ => False
def Marked (l : Nat) (W W2 : World) : Prop := ∃ r r', W.heap[l]? = some (.loop r) ∧ W2 = W.putObj l (.loop r')
theorem Marked.at_ {l : Nat} {W W2 : World} (h : Marked l W W2) {b : Nat} {t : TypeId} {cs : List Value} (hA : At W b t cs) : At W2 b t cs := by
  obtain ⟨r, r', hr, rfl⟩ := h
  have hne : b ≠ l := by
    rintro rfl
    unfold At at hA
    rw [hr] at hA
    cases hA
  exact (World.putObj_heap_other hne).trans hA
theorem Marked.own {l : Nat} {W W2 : World} (h : Marked l W W2) {β : Type} {B : Nat} {I : β → World → Prop} (hI : OwnFrom B I) {s : β} (hl : B ≤ l) (hs : I s W) : I s W2 := by
  obtain ⟨r, r', hr, rfl⟩ := h
  exact hI.putObj _ hs hl hr rfl
theorem Marked.turned {l : Nat} {W W2 : World} (h : Marked l W W2) : Turned (Just l) W W2 := by
  obtain ⟨r, r', hr, rfl⟩ := h
  exact (Turned.refl _ W).grown (grownBy_putObj' W l _) (fun k e _ => by injection e with e; exact e.symm)
theorem Marked.there {l : Nat} {W W2 : World} (h : Marked l W W2) : ∃ r, W2.heap[l]? = some (.loop r) := by
  obtain ⟨r, r', hr, rfl⟩ := h
  exact ⟨r', World.putObj_heap_same (Array.getElem?_eq_some_iff.1 hr).1⟩
section
variable {P : Program} {α : Type} {encs : α → Array Value} {Kp : World → World → Prop} {xs : List α} {I : Nat → World → Prop} {Ix : Code → Nat → World → Prop} {w0 W1 : World} {ro : Option Nat} {n m : Nat} {B l gf : Nat} {lb : Array Value}
  {fn : FuncId} {tmps : Array Value} {ps : Array Tmp} {assign body : Code} {db : Nat} {M : List Nat} {Q : Exit → Go.Act → World → Prop} {a' : Go.Act}
theorem loop_calls (hL : W1.heap[l]? = some (.loop { state := .ready, pending := none, fn := fn, tmps := tmps, params := ps, assign := assign, body := body, defers := db })) (hM : ∀ D ∈ M, W1.heap[D]? = some (.deferred (some []))) (hl : B ≤ l) (hB : B ≤ W1.heap.size) (hMB : ∀ D ∈ M, B ≤ D)
    (hseq : SeqI P gf lb encs Kp xs w0) (hb : Below w0.heap.size w0 W1) (hKt : ∀ {A B C : World}, Kp A B → Kp B C → Kp A C) (hKb : ∀ (W : World) (k : Nat) (o o' : Obj), B ≤ k → W.heap[k]? = some o → o.isCells = false → o.isWalk = false → Kp W (W.putObj k o')) (hps : ∀ x, (encs x).size = ps.size)
    (hI : OwnFrom B I) (hIx : ∀ c, OwnFrom B (Ix c)) (h0 : I 0 W1)
    (hround : ∀ i x W, (∃ r, W.heap[l]? = some (.loop r)) → I i W → xs[i]? = some x → assign.wpIn (Fence.wide.inRound l) m P (Exit.then (fun a₁ W' => KeepsFrom B W W' ∧ Kp W W' ∧ I i W' ∧ ∀ W2, Marked l W' W2 → body.wpIn (Fence.wide.inRound l) m P (postI B Kp I Ix i W2) a₁ W2) (fun _ _ _ => False)) { tmps := (ps.zip (encs x)).foldl (fun t (p, v) => t.setIfInBounds p v) tmps, defers := [] } W)
    (hdone : ∀ W, I xs.length W → (∀ D ∈ M, W.heap[D]? = some (.deferred (some []))) → Q .normal a' W)
    (hstop : ∀ c i W, i < xs.length → Ix c i W → (∀ D ∈ M, W.heap[D]? = some (.deferred (some []))) → c.wpIn { Fence.wide with round := ro } n P Q a' W) :
    CallsIn { Fence.wide with round := ro } (n - 1) P gf (#[.func (.yield l) #[] #[]] ++ lb) W1 (rangePost { Fence.wide with round := ro } n P l Q a') := by
  have hlW : l < W1.heap.size := (Array.getElem?_eq_some_iff.1 hL).1
  have hMW : ∀ D ∈ M, D < W1.heap.size := fun D hD => (Array.getElem?_eq_some_iff.1 (hM D hD)).1
  have hMl : ∀ D ∈ M, D ≠ l := fun D hD e => by
    have := hM D hD
    rw [e, hL] at this
    cases this
  have keep : ∀ {X Y : World} {row : Option Nat} {k : Nat} {o : Obj}, X.heap[k]? = some o → k < W1.heap.size → X.grownBy Y row → (∀ r, row = some r → W1.heap.size ≤ r ∧ ∃ o : Obj, X.heap[r]? = some o ∧ o.isCells = false) → Y.heap[k]? = some o := fun hk hlt hg hr =>
    (hg.block _ (Array.getElem?_eq_some_iff.1 hk).1 (fun e => by have := (hr _ e.symm).1; omega)).trans hk
  have past : ∀ {X Y : World} {row : Option Nat}, (∀ r, row = some r → W1.heap.size ≤ r ∧ ∃ o : Obj, X.heap[r]? = some o ∧ o.isCells = false) → X.grownBy Y row → ∀ r, row = some r → B ≤ r ∧ ∃ o : Obj, X.heap[r]? = some o ∧ o.isCells = false := fun hr _ r e => ⟨Nat.le_trans hB (hr r e).1, (hr r e).2⟩
  refine (hseq (n - 1) l
    (fun i W => I i W ∧ W.heap[l]? = some (.loop { state := .ready, pending := none, fn := fn, tmps := tmps, params := ps, assign := assign, body := body, defers := db }) ∧ ∀ D ∈ M, W.heap[D]? = some (.deferred (some [])))
    (fun i W => ∃ c, Ix c i W ∧ W.heap[l]? = some (.loop { state := .done, pending := some c, fn := fn, tmps := tmps, params := ps, assign := assign, body := body, defers := db }) ∧ ∀ D ∈ M, W.heap[D]? = some (.deferred (some [])))
    W1 hb hlW
    (fun i X Y row hs hg hr => ⟨hI i X Y row hs.1 hg (past hr hg), keep hs.2.1 hlW hg hr, fun D hD => keep (hs.2.2 D hD) (hMW D hD) hg hr⟩)
    (fun i X Y row hs hg hr => by
      obtain ⟨c, h1, h2, h3⟩ := hs
      exact ⟨c, hIx c i X Y row h1 hg (past hr hg), keep h2 hlW hg hr, fun D hD => keep (h3 D hD) (hMW D hD) hg hr⟩)
    ?_ ⟨h0, hL, hM⟩).mono ?_
  · rintro i x W hx ⟨hi, hrl, hrm⟩
    refine ⟨fn, _, assign, body, run_yield hrl (hps x), round_out (m := m) (roundIn_of_wpIn (F := Fence.wide) trivial (wpIn_mono (hround i x W ⟨_, hrl⟩ hi hx) ?_))⟩
    rintro e a₁ W' hq
    cases e with
    | normal =>
      obtain ⟨k1, k2, k3, hbody⟩ := hq
      have hrl' := k1.same l _ hl hrl rfl
      have hrm' : ∀ D ∈ M, W'.heap[D]? = some (.deferred (some [])) := fun D hD => k1.same D _ (hMB D hD) (hrm D hD) rfl
      refine ⟨_, run_beginRound hrl' rfl, wpIn_mono (hbody _ ⟨_, _, hrl', rfl⟩) ?_⟩
      have hlt' : l < W'.heap.size := (Array.getElem?_eq_some_iff.1 hrl').1
      have behind : ∀ (jump : Option Code) (W3 : World), KeepsFrom B (W'.putObj l (.loop { state := .busy, pending := none, fn := fn, tmps := tmps, params := ps, assign := assign, body := body, defers := db })) W3 →
          W3.heap[l]? = some (.loop { state := .busy, pending := none, fn := fn, tmps := tmps, params := ps, assign := assign, body := body, defers := db }) ∧
          (∀ D ∈ M, (W3.putObj l (.loop { state := if jump.isNone then .ready else .done, pending := jump, fn := fn, tmps := tmps, params := ps, assign := assign, body := body, defers := db })).heap[D]? = some (.deferred (some []))) ∧
          (W3.putObj l (.loop { state := if jump.isNone then .ready else .done, pending := jump, fn := fn, tmps := tmps, params := ps, assign := assign, body := body, defers := db })).heap[l]? = some (.loop { state := if jump.isNone then .ready else .done, pending := jump, fn := fn, tmps := tmps, params := ps, assign := assign, body := body, defers := db }) := fun jump W3 hk => by
        have h1 := hk.same l _ hl (World.putObj_heap_same hlt') rfl
        exact ⟨h1, fun D hD => (World.putObj_heap_other (hMl D hD)).trans (hk.same D _ (hMB D hD) ((World.putObj_heap_other (hMl D hD)).trans (hrm' D hD)) rfl), World.putObj_heap_same (Array.getElem?_eq_some_iff.1 h1).1⟩
      have oth : ∀ (jump : Option Code) (W3 : World), KeepsFrom B (W'.putObj l (.loop { state := .busy, pending := none, fn := fn, tmps := tmps, params := ps, assign := assign, body := body, defers := db })) W3 →
          W.heap.size ≤ (W3.putObj l (.loop { state := if jump.isNone then .ready else .done, pending := jump, fn := fn, tmps := tmps, params := ps, assign := assign, body := body, defers := db })).heap.size ∧
          Others W1.heap.size l W (W3.putObj l (.loop { state := if jump.isNone then .ready else .done, pending := jump, fn := fn, tmps := tmps, params := ps, assign := assign, body := body, defers := db })) := fun jump W3 hk => by
        refine ⟨?_, fun k o hBk hkl ho hc => ?_⟩
        · have h1 := k1.size
          have h2 := hk.size
          rw [World.putObj_size] at h2 ⊢
          omega
        · have h1 := k1.same k o (by omega) ho hc
          have h2 := hk.same k o (by omega) ((World.putObj_heap_other hkl).trans h1) hc
          exact (World.putObj_heap_other hkl).trans h2
      rintro e a₃ W3 hp
      cases e with
      | normal =>
        obtain ⟨p1, p2, p3⟩ := hp
        obtain ⟨h1, h2, h3⟩ := behind none W3 p1
        exact ⟨_, _, run_endRound none h1, .inl ⟨rfl, ⟨hI.putObj _ p3 hl h1 rfl, h3, h2⟩, hKt k2 (hKt (hKb _ _ _ _ hl hrl' rfl rfl) (hKt p2 (hKb _ _ _ _ hl h1 rfl rfl))), (oth none W3 p1).2⟩⟩
      | ret =>
        obtain ⟨p1, p2⟩ := hp
        obtain ⟨h1, h2, h3⟩ := behind (some .ret) W3 p1
        exact ⟨_, _, run_endRound (some .ret) h1, .inr ⟨rfl, ⟨.ret, (hIx _).putObj _ p2 hl h1 rfl, h3, h2⟩, oth (some .ret) W3 p1⟩⟩
      | exit id =>
        obtain ⟨p1, p2⟩ := hp
        obtain ⟨h1, h2, h3⟩ := behind (some (.exit id)) W3 p1
        exact ⟨_, _, run_endRound (some (.exit id)) h1, .inr ⟨rfl, ⟨.exit id, (hIx _).putObj _ p2 hl h1 rfl, h3, h2⟩, oth (some (.exit id)) W3 p1⟩⟩
      | goto t =>
        obtain ⟨p1, p2⟩ := hp
        obtain ⟨h1, h2, h3⟩ := behind (some (.goto t)) W3 p1
        exact ⟨_, _, run_endRound (some (.goto t)) h1, .inr ⟨rfl, ⟨.goto t, (hIx _).putObj _ p2 hl h1 rfl, h3, h2⟩, oth (some (.goto t)) W3 p1⟩⟩
      | panic ch => exact hp.elim
      | outgrown => exact hp.elim
    | ret => exact hq.elim
    | exit id => exact hq.elim
    | goto t => exact hq.elim
    | panic ch => exact hq.elim
    | outgrown => exact hq.elim
  · rintro e W2 ⟨⟨v, rfl⟩, ⟨hi, hrl, hrm⟩ | ⟨i, hlt, c, hi, hrl, hrm⟩⟩
    · exact ⟨_, _, run_endLoop hrl (by simp), hdone _ (hI.putObj _ hi hl hrl rfl) fun D hD => (World.putObj_heap_other (hMl D hD)).trans (hrm D hD)⟩
    · exact ⟨_, _, run_endLoop hrl (by simp), hstop c i _ hlt ((hIx c).putObj _ hi hl hrl rfl) fun D hD => (World.putObj_heap_other (hMl D hD)).trans (hrm D hD)⟩
end
section
variable {P : Program} {α : Type} {encs : α → Array Value} {Kp : World → World → Prop} {xs : List α} {I : Nat → World → Prop} {Ix : Code → Nat → World → Prop} {w0 w : World} {n m : Nat} {gf : Nat} {lb : Array Value} {g : Operand}
  {ps : Array Tmp} {assign body : Code} {Q : Exit → Go.Act → World → Prop} {a : Go.Act}
theorem range_outer (hg : a.eval g = .func (.func gf) #[] lb) (eg : ∀ args w, (callFunc gf args).run P w = .ok (.enter gf args) w) (hseq : SeqI P gf lb encs Kp xs w0) (hb : Below w0.heap.size w0 w) (hKt : ∀ {A B C : World}, Kp A B → Kp B C → Kp A C) (hKb : ∀ (W : World) (k : Nat) (o o' : Obj), w.heap.size ≤ k → W.heap[k]? = some o → o.isCells = false → o.isWalk = false → Kp W (W.putObj k o')) (hps : ∀ x, (encs x).size = ps.size)
    (hI : OwnFrom w.heap.size I) (hIx : ∀ c, OwnFrom w.heap.size (Ix c)) (h0 : I 0 w)
    (hround : ∀ l i x W, w.heap.size ≤ l → (∃ r, W.heap[l]? = some (.loop r)) → I i W → xs[i]? = some x → assign.wpIn (Fence.wide.inRound l) m P (Exit.then (fun a₁ W' => KeepsFrom w.heap.size W W' ∧ Kp W W' ∧ I i W' ∧ ∀ W2, Marked l W' W2 → body.wpIn (Fence.wide.inRound l) m P (postI w.heap.size Kp I Ix i W2) a₁ W2) (fun _ _ _ => False)) { tmps := (ps.zip (encs x)).foldl (fun t (p, v) => t.setIfInBounds p v) a.tmps, defers := [] } W)
    (hdone : ∀ W, I xs.length W → W.heap[w.heap.size]? = some (.deferred (some [])) → Q .normal { a with defers := { target := .collected w.heap.size, args := #[] } :: a.defers } W)
    (hstop : ∀ c i W, i < xs.length → Ix c i W → W.heap[w.heap.size]? = some (.deferred (some [])) → c.wpIn Fence.wide n P Q { a with defers := { target := .collected w.heap.size, args := #[] } :: a.defers } W) :
    (Code.rangeFunc g ps assign body).wpIn Fence.wide n P Q a w := by
  refine wpIn_rangeFunc (F := Fence.wide) fun fn _ => ?_
  have hnew := World.alloc_heap_new (w.alloc (.deferred (some []))) (.loop { state := .ready, pending := none, fn := fn, tmps := a.tmps, params := ps, assign := assign, body := body, defers := w.heap.size })
  rw [World.size_alloc] at hnew
  have hrun := run_enterLoop_outer (P := P) (w := w) fn a.tmps ps assign body
  have hmk : ((w.alloc (.deferred (some []))).alloc (.loop { state := .ready, pending := none, fn := fn, tmps := a.tmps, params := ps, assign := assign, body := body, defers := w.heap.size })).heap[w.heap.size]? = some (.deferred (some [])) := (Below.heap_alloc _ _ _ (by simp)).trans (World.alloc_heap_new w _)
  have hI1 := hI.alloc (.loop { state := .ready, pending := none, fn := fn, tmps := a.tmps, params := ps, assign := assign, body := body, defers := w.heap.size }) (hI.alloc (.deferred (some [])) h0)
  have hbl := hb.trans ((((Below.refl _ w).alloc (Nat.le_refl _) (.deferred (some []))).alloc (by simp) (.loop { state := .ready, pending := none, fn := fn, tmps := a.tmps, params := ps, assign := assign, body := body, defers := w.heap.size })).mono hb.size)
  have hsz : w.heap.size ≤ ((w.alloc (.deferred (some []))).alloc (.loop { state := .ready, pending := none, fn := fn, tmps := a.tmps, params := ps, assign := assign, body := body, defers := w.heap.size })).heap.size := by simp; omega
  generalize (w.alloc (.deferred (some []))).alloc (.loop { state := .ready, pending := none, fn := fn, tmps := a.tmps, params := ps, assign := assign, body := body, defers := w.heap.size }) = W1 at hnew hrun hmk hI1 hbl hsz
  refine ⟨w.heap.size + 1, [{ target := .collected w.heap.size, args := #[] }], W1, { target := .fn (.func gf) lb, args := #[.func (.yield (w.heap.size + 1)) #[] #[]] }, W1, gf, #[.func (.yield (w.heap.size + 1)) #[] #[]] ++ lb, W1, hrun, ?_, fun _ _ => trivial, ?_, fun h => (by cases h), ?_⟩
  · simp only [resolve, hg]
    simp [go_sem]
  · simp [invoke, go_sem, eg]
  · refine loop_calls (ro := none) (M := [w.heap.size]) (B := w.heap.size) hnew ?_ (by omega) hsz (by simp) hseq hbl (fun h k => hKt h k) hKb hps hI hIx hI1 (fun i x W hr hi hx => hround (w.heap.size + 1) i x W (by omega) hr hi hx) (fun W hi hm => hdone W hi (hm _ (by simp))) (fun c i W hlt hi hm => hstop c i W hlt hi (hm _ (by simp)))
    intro D hD
    obtain rfl : D = w.heap.size := by simpa using hD
    exact hmk
end
end Go.Proofs.YtpkkejdjhnmjiaaGreat
