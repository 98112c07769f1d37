/- The power goes in the midst of a program, or of an erasure: what stands on the flash then, as words (plain data). | What a block is whose header, or whose pages, were cut: doubtful blocks stay harmless (plain data). | The power goes in the midst of a put, or of a block's renewal: what the flash's blocks are then (plain data). | A flash at rest: what is on it when the power went, whatever was cut (plain data). | The power goes in the midst of a reclaim, or of an act: what is at rest then (plain data). | The power goes in an act, or in a Mount: what is at rest then; a Mount that is done (plain data). | What Mount does, as plain data: doubtful blocks are renewed, then a block of which nothing is needed, if none is empty. | A Mount of a flash at rest, whatever the power does: it is done, and the values are what they were, or the flash is at rest again (plain data). | A range over a function, by a law that asks less of what a round keeps: its record, and its mark. | Mount's repair: doubtful blocks are renewed, then a block of which nothing is needed, if none is empty. -/
import Derived.Test.YtnfgpjfldgocaaaGreatFtlMp
import Derived.Test.YtnfgpjfldgocaaaGreatFtl8
import Derived.Test.YtnfgpjfldgocaaaGreatSeq
namespace Go.Proofs.YtnfgpjfldgocaaaGreat
open Go.RowKit Bm
section
variable {k : Nat} {d : DrvM} {ws l : List (BitVec 32)} {a n : Nat} {p : BitVec 32}
theorem dErase_worn (h : Live k d) (b : Nat) (hb : b < k) (hw : d.f.chip.endure ≤ nm d.f.chip.wear b) :
    dErase d b = (⟨{ d.f with mode := 1 }, d.t + 20⟩, 5) ∧ Live k (dErase d b).1 := by
  have h1 := refuse_live h (a := (b : Int) * 64) (by omega) (by omega)
  have hR : mRefuse d.f.chip (b : Int) d.f.chip.wear.length = 0 := by
    unfold mRefuse
    rw [h.up, if_neg (by decide), h.ok.ok.chip.wears, if_neg (by omega)]
  have e : dErase d b = (⟨{ d.f with mode := 1 }, d.t + 20⟩, 5) := by
    unfold dErase
    rw [if_pos h1, h.free, if_neg (by decide)]
    unfold mErase
    rw [if_pos hR, Int.toNat_natCast, if_pos hw]
  exact ⟨e, erase_calm h.ok b, by rw [e]; exact h.up, fun i => by rw [e]; exact h.free i⟩
end
end Go.Proofs.YtnfgpjfldgocaaaGreat
namespace Go.Proofs.YtnfgpjfldgocaaaGreat
open Go.RowKit Bm
def lastW : BitVec 32 := 1526644958#32
def firstW : BitVec 32 := 2970353665#32
section
variable {k b i n : Nat} {ws us : List (BitVec 32)} {p : BitVec 32} {pg : PageM}
theorem list4 {α : Type} {l : List α} (h : l.length = 4) : ∃ a b c e, l = [a, b, c, e] := by
  match l, h with
  | [a, b, c, e], _ => exact ⟨a, b, c, e, rfl⟩
theorem wd_win {a n j : Nat} (h : j < n) : wd (win ws a n) j = wd ws (a + j) := by
  unfold wd
  rw [List.getD_eq_getElem?_getD, List.getD_eq_getElem?_getD, win_get, if_pos h]
theorem head_iff4 (x y z t : BitVec 32) : (hdRd [x, y, z, t]).2 = 1 ↔ x = firstW ∧ z = ~~~y ∧ U y ≤ 2147483648 ∧ t = lastW := by
  have e1 : wd [x, y, z, t] 1 = y := rfl
  unfold hdRd
  rw [if_pos (show [x, y, z, t].length = 4 from rfl), e1]
  constructor
  · intro h
    split at h
    · cases h
    · split at h
      · next hw =>
        unfold hdWs at hw
        split at hw
        · next hu =>
          simp only [List.cons.injEq, and_true] at hw
          exact ⟨hw.1.symm, hw.2.2.1.symm, hu, hw.2.2.2.symm⟩
        · cases hw
      · cases h
  · rintro ⟨rfl, rfl, hu, rfl⟩
    rw [if_neg, if_pos]
    · unfold hdWs
      rw [if_pos hu]
      rfl
    · intro hf
      have := ones_of_free (n := 4) rfl hf
      unfold onesW at this
      simp [List.replicate, firstW] at this
theorem win4 (hl : 64 * b + 4 ≤ ws.length) : win ws (64 * b) 4 = [wd ws (64 * b), wd ws (64 * b + 1), wd ws (64 * b + 2), wd ws (64 * b + 3)] := by
  obtain ⟨x, y, z, t, e⟩ := list4 (win_len (ws := ws) (a := 64 * b) (n := 4) hl)
  have h0 := wd_win (ws := ws) (a := 64 * b) (n := 4) (j := 0) (by omega)
  have h1 := wd_win (ws := ws) (a := 64 * b) (n := 4) (j := 1) (by omega)
  have h2 := wd_win (ws := ws) (a := 64 * b) (n := 4) (j := 2) (by omega)
  have h3 := wd_win (ws := ws) (a := 64 * b) (n := 4) (j := 3) (by omega)
  rw [e] at h0 h1 h2 h3 ⊢
  rw [← h1, ← h2, ← h3, show wd ws (64 * b) = wd ws (64 * b + 0) from rfl, ← h0]
  rfl
theorem head_iff (hl : 64 * b + 64 ≤ ws.length) : (bkOf (chunk ws b)).head = 1 ↔ wd ws (64 * b) = firstW ∧ wd ws (64 * b + 2) = ~~~wd ws (64 * b + 1) ∧ U (wd ws (64 * b + 1)) ≤ 2147483648 ∧ wd ws (64 * b + 3) = lastW := by
  rw [bkOf_win, win4 (by omega)]
  exact head_iff4 _ _ _ _
end
end Go.Proofs.YtnfgpjfldgocaaaGreat
namespace Go.Proofs.YtnfgpjfldgocaaaGreat
open Go.RowKit Bm
section
variable {k b i n m : Nat} {d d' : DrvM} {x : StoM} {ws us : List (BitVec 32)} {p : BitVec 32} {pg : PageM}
end
end Go.Proofs.YtnfgpjfldgocaaaGreat
namespace Go.Proofs.YtnfgpjfldgocaaaGreat
open Go.RowKit Bm Go.Shelf
def NoNeed (bs : List BlkM) (b : Nat) : Prop := ∀ y ∈ cnt bs, y.b = (b : Int) → ∃ z ∈ cnt bs, z.b ≠ (b : Int) ∧ z.p.s = y.p.s ∧ U y.p.q ≤ U z.p.q
section
variable {k b i m : Nat} {bs bs' : List BlkM} {A A' : PageM → Prop}
theorem of_needed (h : lNeeded (cnt bs) (b : Int) = []) : NoNeed bs b := by
  have hbeat : ∀ x ∈ cnt bs, x.b = (b : Int) → ∃ y ∈ cnt bs, beats y x = true := fun x hx hb => by
    unfold lNeeded at h
    rw [List.filter_eq_nil_iff] at h
    have h1 := h x hx
    rw [Bool.and_eq_true, decide_eq_true_eq] at h1
    have h2 : lNeeds (cnt bs) x ≠ true := fun e => h1 ⟨hb, e⟩
    unfold lNeeds at h2
    rw [ne_eq, Bool.not_eq_true, List.all_eq_false] at h2
    obtain ⟨y, hy, h3⟩ := h2
    exact ⟨y, hy, by simpa using h3⟩
  intro y hy hyb
  obtain ⟨t, ht⟩ : ∃ t, best (cnt bs) y.p.s = some t := by
    cases e : best (cnt bs) y.p.s with
    | none => exact absurd rfl ((best_none _ _).1 e y hy)
    | some t => exact ⟨t, rfl⟩
  obtain ⟨t1, t2, t3⟩ := best_some _ _ _ ht
  have key : ∀ (n : Nat) (x : PlM), x ∈ cnt bs → x.p.s = y.p.s → U y.p.q ≤ U x.p.q → (∀ z ∈ cnt bs, z.p.s = y.p.s → U z.p.q ≤ U x.p.q) → x.i < (n : Int) → ∃ z ∈ cnt bs, z.b ≠ (b : Int) ∧ z.p.s = y.p.s ∧ U y.p.q ≤ U z.p.q := by
    intro n
    induction n with
    | zero =>
      intro x hx _ _ _ hi
      obtain ⟨c, j, _, _, _, rfl⟩ := mem_cnt.1 hx
      exact absurd hi (by show ¬ ((j : Int) < ((0 : Nat) : Int)); omega)
    | succ n ih =>
      intro x hx hs hq hm hi
      by_cases hb : x.b = (b : Int)
      · obtain ⟨z, hz, hbz⟩ := hbeat x hx hb
        unfold beats at hbz
        rw [decide_eq_true_eq] at hbz
        obtain ⟨g1, g2, g3⟩ := hbz
        have hzs : z.p.s = y.p.s := g1.trans hs
        have hzq := hm z hz hzs
        rcases g3 with g3 | ⟨g3, g4⟩
        · omega
        · rcases g4 with g4 | g4
          · exact ⟨z, hz, fun e => g4 (e.trans hb.symm), hzs, by rw [g3]; exact hq⟩
          · exact ih z hz hzs (by rw [g3]; exact hq) (fun w hw hws => by rw [g3]; exact hm w hw hws) (by omega)
      · exact ⟨x, hx, hb, hs, hq⟩
  exact key 1000000 t t1 t2 (t3 y hy rfl) t3 (by
    obtain ⟨c, j, _, hj, _, rfl⟩ := mem_cnt.1 t1
    show (j : Int) < ((1000000 : Nat) : Int)
    omega)
def SameTop (A A' : PageM → Prop) : Prop := ∀ s p, TopP A s p ↔ TopP A' s p
theorem same_un (hu : UnP A) (h : SameTop A A') : UnP A' := fun s p r hp hr => hu s p r ((h s p).2 hp) ((h s r).2 hr)
theorem same_val (hu : UnP (PgS bs)) (h : SameTop (PgS bs) (PgS bs')) (s : BitVec 32) : Val bs' s = Val bs s := by
  have hu' := same_un hu h
  rcases top_or hu s with ⟨p, hp⟩ | hn
  · rw [val_top hu hp, val_top hu' ((h s p).1 hp)]
  · rcases top_or hu' s with ⟨p, hp⟩ | hn'
    · have := (h s p).2 hp
      exact absurd this.sec (hn p this.mem)
    · rw [val_none hn, val_none hn']
theorem same_drop (hu : UnP (PgS bs)) (hn : NoNeed bs b) (h : ∀ p, PgS bs' p ↔ OutS bs b p) : SameTop (PgS bs) (PgS bs') := by
  intro s p
  constructor
  · intro t
    have hout : OutS bs b p := by
      obtain ⟨y, hy, rfl⟩ := t.mem
      by_cases hb : y.b = (b : Int)
      · obtain ⟨z, hz, hzb, hs, hq⟩ := hn y hy hb
        have tz : TopP (PgS bs) s z.p := ⟨⟨z, hz, rfl⟩, hs.trans t.sec, fun w hw he => by have := t.max w hw he; omega⟩
        exact ⟨z, hz, hzb, hu s _ _ tz t⟩
      · exact ⟨y, hy, hb, rfl⟩
    exact ⟨(h p).2 hout, t.sec, fun z hz he => t.max z (out_in ((h z).1 hz)) he⟩
  · intro t
    refine ⟨out_in ((h p).1 t.mem), t.sec, fun z hz he => ?_⟩
    obtain ⟨y, hy, rfl⟩ := hz
    by_cases hb : y.b = (b : Int)
    · obtain ⟨w, hw, hwb, hs, hq⟩ := hn y hy hb
      have := t.max w.p ((h _).2 ⟨w, hw, hwb, rfl⟩) (hs.trans he)
      omega
    · exact t.max y.p ((h _).2 ⟨y, hy, hb, rfl⟩) he
theorem mem_setN {c : BlkM} (hb : b < bs.length) (hc : ∀ i, i < 8 → nm c.kinds i ≠ 1) {y : PlM} : y ∈ cnt (bs.set b c) ↔ y ∈ cnt bs ∧ y.b ≠ (b : Int) := by
  rw [mem_cnt, mem_cnt, List.length_set]
  constructor
  · rintro ⟨e, j, he, hj, h1, ey⟩
    rw [bkN_set hb] at h1 ey
    by_cases eb : e = b
    · rw [if_pos eb] at h1
      exact absurd h1 (hc j hj)
    · rw [if_neg eb] at h1 ey
      subst ey
      exact ⟨⟨e, j, he, hj, h1, rfl⟩, by show (e : Int) ≠ (b : Int); omega⟩
  · rintro ⟨⟨e, j, he, hj, h1, rfl⟩, hne⟩
    have eb : e ≠ b := fun h => hne (by show (e : Int) = (b : Int); rw [h])
    refine ⟨e, j, he, hj, ?_, ?_⟩
    · rw [bkN_set hb, if_neg eb]
      exact h1
    · rw [bkN_set hb, if_neg eb]
theorem head_kinds {ws : List (BitVec 32)} (h : (bkOf (chunk ws b)).head ≠ 1) (i : Nat) (hi : i < 8) : nm (bkOf (chunk ws b)).kinds i ≠ 1 := by
  rw [vk_kind _ _ hi, if_neg h]
  decide
end
end Go.Proofs.YtnfgpjfldgocaaaGreat
namespace Go.Proofs.YtnfgpjfldgocaaaGreat
open Go.RowKit Bm Go.Shelf
section
variable {C : Prop} {k b : Nat} {Q W W' : Int} {d d' : DrvM} {x x' : StoM} {V V' : BitVec 32 → List (BitVec 32)} {c : ChipM}
theorem view_far {ws us : List (BitVec 32)} (h : ∀ j, j < k → j ≠ b → chunk us j = chunk ws j) (hb : b < k) : viewOf k us = (viewOf k ws).set b (bkOf (chunk us b)) := view_set hb h
end
end Go.Proofs.YtnfgpjfldgocaaaGreat
namespace Go.Proofs.YtnfgpjfldgocaaaGreat
open Go.RowKit Bm Go.Shelf
section
variable {C : Prop} {k b : Nat} {Q W W' : Int} {d d' : DrvM} {x x' : StoM} {V V' : BitVec 32 → List (BitVec 32)} {c : ChipM}
def newV (pg : PageM) (V : BitVec 32 → List (BitVec 32)) (s : BitVec 32) : List (BitVec 32) := if s = pg.s then valOf.d4OfM pg else V s
end
end Go.Proofs.YtnfgpjfldgocaaaGreat
namespace Go.Proofs.YtnfgpjfldgocaaaGreat
open Go.RowKit Bm Go.Shelf
def tailB (x : StoM) : Option Nat := (ordN x).find? fun b => decide (lNeeded (cnt x.bs) (b : Int) = [])
def mTl (d : DrvM) (x : StoM) : DrvM × StoM × Int :=
  match tailB x with
  | some b => mRenew d x b
  | none => (d, x, 0)
theorem mTl_some {d : DrvM} {x : StoM} {b : Nat} (h : tailB x = some b) : mTl d x = mRenew d x b := by
  unfold mTl
  rw [h]
theorem mTl_none {d : DrvM} {x : StoM} (h : tailB x = none) : mTl d x = (d, x, 0) := by
  unfold mTl
  rw [h]
def mTail (d : DrvM) (x : StoM) : DrvM × StoM × Int := if x.bs.any bkEmpty = true then (d, x, 0) else mTl d x
def mRep (k : Nat) (d : DrvM) (x : StoM) : DrvM × StoM × Int :=
  if (mFix d x (List.range k)).2.2 ≠ 0 then mFix d x (List.range k) else mTail (mFix d x (List.range k)).1 (mFix d x (List.range k)).2.1
theorem mTail_calm {k : Nat} {d : DrvM} (ok : DrvOk k d) (x : StoM) : DrvOk k (mTail d x).1 := by
  unfold mTail
  split
  · exact ok
  · cases h : tailB x with
    | none => rw [mTl_none h]; exact ok
    | some b => rw [mTl_some h]; exact renew_calm ok x b
end Go.Proofs.YtnfgpjfldgocaaaGreat
namespace Go.Proofs.YtnfgpjfldgocaaaGreat
open Go.RowKit Bm Go.Shelf
section
variable {k b : Nat} {Q W : Int} {d d' : DrvM} {x x' : StoM} {V : BitVec 32 → List (BitVec 32)} {c c' : ChipM}
end
end Go.Proofs.YtnfgpjfldgocaaaGreat
namespace Go.Proofs.YtnfgpjfldgocaaaGreat
open Go.RowKit Bm
def SeqJ {α : Type} (P : Program) (g : Nat) (lb : Array Value) (encs : α → Array Value) (Kp : World → World → Prop) (xs : List α) (w : World) : Prop :=
  ∀ (fr l : Nat) (J Jx : Nat → World → Prop) (W : World), Below w.heap.size w W → l < W.heap.size → (∀ i X Y, J i X → Below X.heap.size X Y → J i Y) →
    (∀ i x W1, xs[i]? = some x → J i W1 → YieldAt Fence.wide 0 P l (encs x) W1 fun e W' => (e = .returned (.bool true) ∧ J (i + 1) W' ∧ Kp W1 W') ∨ (e = .returned (.bool false) ∧ Jx i W' ∧ W1.heap.size ≤ W'.heap.size)) →
    J 0 W → CallsIn Fence.wide fr P g (#[.func (.yield l) #[] #[]] ++ lb) W fun e W' => (∃ v, e = .returned v) ∧ (J xs.length W' ∨ ∃ i, i < xs.length ∧ Jx i W')
structure KeepL (l : Nat) (M : List Nat) (W W' : World) : Prop where
  size : W.heap.size ≤ W'.heap.size
  own : W'.heap[l]? = W.heap[l]?
  marks : ∀ D ∈ M, W'.heap[D]? = W.heap[D]?
theorem KeepL.below {l : Nat} {M : List Nat} {W W' : World} (h : Below W.heap.size W W') (hl : l < W.heap.size) (hM : ∀ D ∈ M, D < W.heap.size) : KeepL l M W W' := ⟨h.size, h.block l hl, fun D hD => h.block D (hM D hD)⟩
theorem KeepL.turned {S : Nat → Prop} {l : Nat} {M : List Nat} {W W' : World} (h : Turned S W W') (hl : l < W.heap.size) (hM : ∀ D ∈ M, D < W.heap.size) (sl : ¬ S l) (sM : ∀ D ∈ M, ¬ S D) : KeepL l M W W' := ⟨h.size, h.block l hl sl, fun D hD => h.block D (hM D hD) (sM D hD)⟩
theorem KeepL.trans {l : Nat} {M : List Nat} {W W' W'' : World} (h : KeepL l M W W') (h' : KeepL l M W' W'') : KeepL l M W W'' := ⟨Nat.le_trans h.size h'.size, h'.own.trans h.own, fun D hD => (h'.marks D hD).trans (h.marks D hD)⟩
def postJ (l : Nat) (M : List Nat) (Kp : World → World → Prop) (I : Nat → World → Prop) (Ix : Code → Nat → World → Prop) (i : Nat) (W : World) : Exit → Go.Act → World → Prop
  | .normal, _, W' => KeepL l M W W' ∧ Kp W W' ∧ I (i + 1) W'
  | .ret, _, W' => KeepL l M W W' ∧ Ix .ret i W'
  | .exit id, _, W' => KeepL l M W W' ∧ Ix (.exit id) i W'
  | .goto t, _, W' => KeepL l M W W' ∧ Ix (.goto t) i W'
  | .panic _, _, _ => False
  | .outgrown, _, _ => False
section
variable {P : Program} {α : Type} {encs : α → Array Value} {Kp : World → World → Prop} {xs : List α} {I : Nat → World → Prop} {Ix : Code → Nat → World → Prop} {w0 W1 : World} {ro : Option Nat} {n m : Nat} {B l gf : Nat} {lb : Array Value}
  {fn : FuncId} {tmps : Array Value} {ps : Array Tmp} {assign body : Code} {db : Nat} {M : List Nat} {Q : Exit → Go.Act → World → Prop} {a' : Go.Act}
theorem loop_callsJ (hL : W1.heap[l]? = some (.loop { state := .ready, pending := none, fn := fn, tmps := tmps, params := ps, assign := assign, body := body, defers := db })) (hM : ∀ D ∈ M, W1.heap[D]? = some (.deferred (some []))) 
    (hseq : SeqJ P gf lb encs Kp xs w0) (hb : Below w0.heap.size w0 W1) (hKt : ∀ {A B C : World}, Kp A B → Kp B C → Kp A C) (hKm : ∀ X Y, Marked l X Y → Kp X Y) (hps : ∀ x, (encs x).size = ps.size)
    (hIb : ∀ i X Y, I i X → Below X.heap.size X Y → I i Y) (hIm : ∀ i X Y, I i X → Marked l X Y → I i Y) (hIx : ∀ c i X Y, Ix c i X → Marked l X Y → Ix c i Y) (h0 : I 0 W1)
    (hround : ∀ i x W, (∃ r, W.heap[l]? = some (.loop r)) → I i W → xs[i]? = some x → assign.wpIn (Fence.wide.inRound l) m P (Exit.then (fun a₁ W' => KeepL l M W W' ∧ Kp W W' ∧ I i W' ∧ ∀ W2, Marked l W' W2 → body.wpIn (Fence.wide.inRound l) m P (postJ l M Kp I Ix i W2) a₁ W2) (fun _ _ _ => False)) { tmps := (ps.zip (encs x)).foldl (fun t (p, v) => t.setIfInBounds p v) tmps, defers := [] } W)
    (hdone : ∀ W, I xs.length W → (∀ D ∈ M, W.heap[D]? = some (.deferred (some []))) → Q .normal a' W)
    (hstop : ∀ c i W, i < xs.length → Ix c i W → (∀ D ∈ M, W.heap[D]? = some (.deferred (some []))) → c.wpIn { Fence.wide with round := ro } n P Q a' W) :
    CallsIn { Fence.wide with round := ro } (n - 1) P gf (#[.func (.yield l) #[] #[]] ++ lb) W1 (rangePost { Fence.wide with round := ro } n P l Q a') := by
  have hlW : l < W1.heap.size := (Array.getElem?_eq_some_iff.1 hL).1
  have hMW : ∀ D ∈ M, D < W1.heap.size := fun D hD => (Array.getElem?_eq_some_iff.1 (hM D hD)).1
  have hMl : ∀ D ∈ M, D ≠ l := fun D hD e => by
    have := hM D hD
    rw [e, hL] at this
    cases this
  refine (hseq (n - 1) l
    (fun i W => I i W ∧ W.heap[l]? = some (.loop { state := .ready, pending := none, fn := fn, tmps := tmps, params := ps, assign := assign, body := body, defers := db }) ∧ ∀ D ∈ M, W.heap[D]? = some (.deferred (some [])))
    (fun i W => ∃ c, Ix c i W ∧ W.heap[l]? = some (.loop { state := .done, pending := some c, fn := fn, tmps := tmps, params := ps, assign := assign, body := body, defers := db }) ∧ ∀ D ∈ M, W.heap[D]? = some (.deferred (some [])))
    W1 hb hlW
    (fun i X Y hs hg => ⟨hIb i X Y hs.1 hg, (hg.block l (Array.getElem?_eq_some_iff.1 hs.2.1).1).trans hs.2.1, fun D hD => (hg.block D (Array.getElem?_eq_some_iff.1 (hs.2.2 D hD)).1).trans (hs.2.2 D hD)⟩)
    ?_ ⟨h0, hL, hM⟩).mono ?_
  · rintro i x W hx ⟨hi, hrl, hrm⟩
    refine ⟨fn, _, assign, body, run_yield hrl (hps x), round_out (m := m) (roundIn_of_wpIn (F := Fence.wide) trivial (wpIn_mono (hround i x W ⟨_, hrl⟩ hi hx) ?_))⟩
    rintro e a₁ W' hq
    cases e with
    | normal =>
      obtain ⟨k1, k2, k3, hbody⟩ := hq
      have hrl' := k1.own.trans hrl
      have hrm' : ∀ D ∈ M, W'.heap[D]? = some (.deferred (some [])) := fun D hD => (k1.marks D hD).trans (hrm D hD)
      refine ⟨_, run_beginRound hrl' rfl, wpIn_mono (hbody _ ⟨_, _, hrl', rfl⟩) ?_⟩
      have hlt' : l < W'.heap.size := (Array.getElem?_eq_some_iff.1 hrl').1
      have behind : ∀ (jump : Option Code) (W3 : World), KeepL l M (W'.putObj l (.loop { state := .busy, pending := none, fn := fn, tmps := tmps, params := ps, assign := assign, body := body, defers := db })) W3 →
          W3.heap[l]? = some (.loop { state := .busy, pending := none, fn := fn, tmps := tmps, params := ps, assign := assign, body := body, defers := db }) ∧
          (∀ D ∈ M, (W3.putObj l (.loop { state := if jump.isNone then .ready else .done, pending := jump, fn := fn, tmps := tmps, params := ps, assign := assign, body := body, defers := db })).heap[D]? = some (.deferred (some []))) ∧
          (W3.putObj l (.loop { state := if jump.isNone then .ready else .done, pending := jump, fn := fn, tmps := tmps, params := ps, assign := assign, body := body, defers := db })).heap[l]? = some (.loop { state := if jump.isNone then .ready else .done, pending := jump, fn := fn, tmps := tmps, params := ps, assign := assign, body := body, defers := db }) := fun jump W3 hk => by
        have h1 := hk.own.trans (World.putObj_heap_same hlt')
        exact ⟨h1, fun D hD => (World.putObj_heap_other (hMl D hD)).trans ((hk.marks D hD).trans ((World.putObj_heap_other (hMl D hD)).trans (hrm' D hD))), World.putObj_heap_same (Array.getElem?_eq_some_iff.1 h1).1⟩
      have oth : ∀ (jump : Option Code) (W3 : World), KeepL l M (W'.putObj l (.loop { state := .busy, pending := none, fn := fn, tmps := tmps, params := ps, assign := assign, body := body, defers := db })) W3 →
          W.heap.size ≤ (W3.putObj l (.loop { state := if jump.isNone then .ready else .done, pending := jump, fn := fn, tmps := tmps, params := ps, assign := assign, body := body, defers := db })).heap.size := fun jump W3 hk => by
        have h1 := k1.size
        have h2 := hk.size
        rw [World.putObj_size] at h2 ⊢
        omega
      rintro e a₃ W3 hp
      cases e with
      | normal =>
        obtain ⟨p1, p2, p3⟩ := hp
        obtain ⟨h1, h2, h3⟩ := behind none W3 p1
        exact ⟨_, _, run_endRound none h1, .inl ⟨rfl, ⟨hIm _ _ _ p3 ⟨_, _, h1, rfl⟩, h3, h2⟩, hKt k2 (hKt (hKm _ _ ⟨_, _, hrl', rfl⟩) (hKt p2 (hKm _ _ ⟨_, _, h1, rfl⟩)))⟩⟩
      | ret =>
        obtain ⟨p1, p2⟩ := hp
        obtain ⟨h1, h2, h3⟩ := behind (some .ret) W3 p1
        exact ⟨_, _, run_endRound (some .ret) h1, .inr ⟨rfl, ⟨.ret, hIx _ _ _ _ p2 ⟨_, _, h1, rfl⟩, h3, h2⟩, oth (some .ret) W3 p1⟩⟩
      | exit id =>
        obtain ⟨p1, p2⟩ := hp
        obtain ⟨h1, h2, h3⟩ := behind (some (.exit id)) W3 p1
        exact ⟨_, _, run_endRound (some (.exit id)) h1, .inr ⟨rfl, ⟨.exit id, hIx _ _ _ _ p2 ⟨_, _, h1, rfl⟩, h3, h2⟩, oth (some (.exit id)) W3 p1⟩⟩
      | goto t =>
        obtain ⟨p1, p2⟩ := hp
        obtain ⟨h1, h2, h3⟩ := behind (some (.goto t)) W3 p1
        exact ⟨_, _, run_endRound (some (.goto t)) h1, .inr ⟨rfl, ⟨.goto t, hIx _ _ _ _ p2 ⟨_, _, h1, rfl⟩, h3, h2⟩, oth (some (.goto t)) W3 p1⟩⟩
      | panic ch => exact hp.elim
      | outgrown => exact hp.elim
    | ret => exact hq.elim
    | exit id => exact hq.elim
    | goto t => exact hq.elim
    | panic ch => exact hq.elim
    | outgrown => exact hq.elim
  · rintro e W2 ⟨⟨v, rfl⟩, ⟨hi, hrl, hrm⟩ | ⟨i, hlt, c, hi, hrl, hrm⟩⟩
    · exact ⟨_, _, run_endLoop hrl (by simp), hdone _ (hIm _ _ _ hi ⟨_, _, hrl, rfl⟩) fun D hD => (World.putObj_heap_other (hMl D hD)).trans (hrm D hD)⟩
    · exact ⟨_, _, run_endLoop hrl (by simp), hstop c i _ hlt (hIx c _ _ _ hi ⟨_, _, hrl, rfl⟩) fun D hD => (World.putObj_heap_other (hMl D hD)).trans (hrm D hD)⟩
end
section
variable {P : Program} {α : Type} {encs : α → Array Value} {Kp : World → World → Prop} {xs : List α} {I : Nat → World → Prop} {Ix : Code → Nat → World → Prop} {w0 w : World} {n m : Nat} {gf : Nat} {lb : Array Value} {g : Operand}
  {ps : Array Tmp} {assign body : Code} {Q : Exit → Go.Act → World → Prop} {a : Go.Act}
theorem range_outerJ (hg : a.eval g = .func (.func gf) #[] lb) (eg : ∀ args w, (callFunc gf args).run P w = .ok (.enter gf args) w) (hseq : SeqJ P gf lb encs Kp xs w0) (hb : Below w0.heap.size w0 w) (hKt : ∀ {A B C : World}, Kp A B → Kp B C → Kp A C) (hKm : ∀ X Y, Marked (w.heap.size + 1) X Y → Kp X Y) (hps : ∀ x, (encs x).size = ps.size)
    (hIb : ∀ i X Y, I i X → Below X.heap.size X Y → I i Y) (hIm : ∀ i X Y, I i X → Marked (w.heap.size + 1) X Y → I i Y) (hIx : ∀ c i X Y, Ix c i X → Marked (w.heap.size + 1) X Y → Ix c i Y) (h0 : ∀ W1, Below w.heap.size w W1 → W1.heap.size = w.heap.size + 2 → I 0 W1)
    (hround : ∀ i x W, (∃ r, W.heap[w.heap.size + 1]? = some (.loop r)) → I i W → xs[i]? = some x → assign.wpIn (Fence.wide.inRound (w.heap.size + 1)) m P (Exit.then (fun a₁ W' => KeepL (w.heap.size + 1) [w.heap.size] W W' ∧ Kp W W' ∧ I i W' ∧ ∀ W2, Marked (w.heap.size + 1) W' W2 → body.wpIn (Fence.wide.inRound (w.heap.size + 1)) m P (postJ (w.heap.size + 1) [w.heap.size] Kp I Ix i W2) a₁ W2) (fun _ _ _ => False)) { tmps := (ps.zip (encs x)).foldl (fun t (p, v) => t.setIfInBounds p v) a.tmps, defers := [] } W)
    (hdone : ∀ W, I xs.length W → W.heap[w.heap.size]? = some (.deferred (some [])) → Q .normal { a with defers := { target := .collected w.heap.size, args := #[] } :: a.defers } W)
    (hstop : ∀ c i W, i < xs.length → Ix c i W → W.heap[w.heap.size]? = some (.deferred (some [])) → c.wpIn Fence.wide n P Q { a with defers := { target := .collected w.heap.size, args := #[] } :: a.defers } W) :
    (Code.rangeFunc g ps assign body).wpIn Fence.wide n P Q a w := by
  refine wpIn_rangeFunc (F := Fence.wide) fun fn _ => ?_
  have hnew := World.alloc_heap_new (w.alloc (.deferred (some []))) (.loop { state := .ready, pending := none, fn := fn, tmps := a.tmps, params := ps, assign := assign, body := body, defers := w.heap.size })
  rw [World.size_alloc] at hnew
  have hrun := run_enterLoop_outer (P := P) (w := w) fn a.tmps ps assign body
  have hmk : ((w.alloc (.deferred (some []))).alloc (.loop { state := .ready, pending := none, fn := fn, tmps := a.tmps, params := ps, assign := assign, body := body, defers := w.heap.size })).heap[w.heap.size]? = some (.deferred (some [])) := (Below.heap_alloc _ _ _ (by simp)).trans (World.alloc_heap_new w _)
  have hbw := (((Below.refl _ w).alloc (Nat.le_refl _) (.deferred (some []))).alloc (by simp) (.loop { state := .ready, pending := none, fn := fn, tmps := a.tmps, params := ps, assign := assign, body := body, defers := w.heap.size }))
  have hbl := hb.trans ((((Below.refl _ w).alloc (Nat.le_refl _) (.deferred (some []))).alloc (by simp) (.loop { state := .ready, pending := none, fn := fn, tmps := a.tmps, params := ps, assign := assign, body := body, defers := w.heap.size })).mono hb.size)
  have hsz : ((w.alloc (.deferred (some []))).alloc (.loop { state := .ready, pending := none, fn := fn, tmps := a.tmps, params := ps, assign := assign, body := body, defers := w.heap.size })).heap.size = w.heap.size + 2 := by simp
  generalize (w.alloc (.deferred (some []))).alloc (.loop { state := .ready, pending := none, fn := fn, tmps := a.tmps, params := ps, assign := assign, body := body, defers := w.heap.size }) = W1 at hnew hrun hmk hbw hbl hsz
  refine ⟨w.heap.size + 1, [{ target := .collected w.heap.size, args := #[] }], W1, { target := .fn (.func gf) lb, args := #[.func (.yield (w.heap.size + 1)) #[] #[]] }, W1, gf, #[.func (.yield (w.heap.size + 1)) #[] #[]] ++ lb, W1, hrun, ?_, fun _ _ => trivial, ?_, fun h => (by cases h), ?_⟩
  · simp only [resolve, hg]
    simp [go_sem]
  · simp [invoke, go_sem, eg]
  · refine loop_callsJ (ro := none) (M := [w.heap.size]) hnew ?_ hseq hbl (fun h k => hKt h k) hKm hps hIb hIm hIx (h0 _ hbw hsz) (fun i x W hr hi hx => hround i x W hr hi hx) (fun W hi hm => hdone W hi (hm _ (by simp))) (fun c i W hlt hi hm => hstop c i W hlt hi (hm _ (by simp)))
    intro D hD
    obtain rfl : D = w.heap.size := by simpa using hD
    exact hmk
end
end Go.Proofs.YtnfgpjfldgocaaaGreat
namespace Go.Proofs.YtnfgpjfldgocaaaGreat
open Go.RowKit Bm Go.Shelf
section
variable {w : World} {N s g q : Nat} {x : StoM}
set_option maxRecDepth 100000 in
set_option maxHeartbeats 4000000 in
theorem us_seqJ (Kb : Nat → Prop) (kN : Kb N) (ks : Kb s) (kg : Kb g) (hU : UsA q s g N x w) :
    SeqJ Tryz.prog 78 #[.pointer (some ⟨N, 0, none⟩)] usE (KpU w.heap.size Kb) (usL x) w := by
  intro fr l J Jx W hW hl hJ hY h0
  have hU1 := hU.below hW
  have HU := Lib.hid hU1
  have HY := Lib.hid hY
  have HJ := Lib.hid hJ
  have H0 := Lib.hid h0
  have HWW := Lib.hid hW
  obtain ⟨n, hn⟩ : ∃ n, n = x.bs.length := ⟨_, rfl⟩
  have k2 := hU.k2
  rw [← hn] at k2
  have HN := Lib.hid hn
  have c0 := hU1.bx.cell 0
  have c1 : W.cell? ⟨s, 1, none⟩ = some (.slice (some ⟨g, 0, none⟩) n n) := by rw [hn]; exact hU1.own.cell 1
  simp only [List.getElem?_cons_zero] at c0
  obtain ⟨i0, hin, hz0, hz1, hz2⟩ := info_parts (show (Tryz.prog.info? 3).map (fun i => (i.zero, i.size, i.bytes)) = some (some (.int .i64 0), 1, 8) by kernel_rfl)
  clear hU hU1 hW hY hJ h0 hn
  refine callsIn_of_wp Tryz.func78 rfl trivial ?_ rfl
  simp only [Tryz.ntmps78, List.size_toArray, List.length_cons, List.length_nil, Nat.reduceAdd, Nat.reduceSub, Array.replicate_succ, Array.replicate_zero, List.push_toArray, List.append_toArray, List.nil_append, List.cons_append]
  gi_wp2
  clear c0 c1
  gi_loopw [3, 12] (fun v i wr => ∃ j : Nat, j ≤ n ∧ i = .int .i64 j ∧ wr.ownsRow W.heap.size 3 1 v (flt x j).length (Ns (flt x j)) ∧ Below W.heap.size W wr) (fun _ i _ => n - (intOf i).toNat)
  case atStart => exact ⟨0, Nat.zero_le _, rfl, World.ownsRow_nil _ _ _ _, Below.refl _ _⟩
  case round =>
    obtain ⟨j, hj, rfl, ho, hB⟩ := hrel
    have HO := Lib.hid ho
    have HB := Lib.hid hB
    have hU2 := HU.out.below hB
    have HU2 := Lib.hid hU2
    have c0 := hU2.bx.cell 0
    have c1 : wr.cell? ⟨s, 1, none⟩ = some (.slice (some ⟨g, 0, none⟩) n n) := by rw [HN.out]; exact hU2.own.cell 1
    simp only [List.getElem?_cons_zero] at c0
    clear ho hB hU2
    by_cases hlt : j < n
    · have i1 : (j : Int) < (n : Int) := by omega
      have i2 : (j : Int) < 64 := by omega
      have cr : wr.cell? ⟨s, 2 + j, none⟩ = some (.bool (bo x.ret j)) := by
        rw [HU2.out.own.cell]
        unfold stoCells
        rw [List.getElem?_append_right (by simp), List.getElem?_append_left (by simp [Bs_length, HU2.out.ret]; omega)]
        simpa using Bs_get x.ret j (by rw [HU2.out.ret]; omega)
      cases hr : bo x.ret j with
      | true =>
        rw [hr] at cr
        have HF : Hid (flt x (j + 1) = flt x j) := Lib.hid (by rw [flt_succ, hr]; simp)
        clear hr
        gi_wp2
        go_roundw
        case rel => exact ⟨j + 1, by omega, by go_num, by rw [HF.out]; exact HO.out, HB.out⟩
        case measure => simp [intOf]; omega
      | false =>
        rw [hr] at cr
        have HF : Hid (flt x (j + 1) = flt x j ++ [j]) := Lib.hid (by rw [flt_succ, hr]; simp)
        have HFL : Hid ((flt x j).length ≤ 19) := Lib.hid (by have := flt_len x j; omega)
        clear hr
        gi_wp2_with (first
          | (gi_at_builtin; refine halt_in ?_))
        refine Lib.hid ?_
        refine wpListIn_appw (base := W.heap.size) (size := 1) (bytes := 8) (xs := Ns (flt x j)) (ys := [.int .i64 (j : Int)]) (k := 1) Tryz.underlying95 hin hz0 hz1 hz2 rfl (by omega) (by omega) _ _ rfl rfl rfl (HO.out.alloc _) rfl (by omega) rfl ((At.news wr 3 [.int .i64 (j : Int)]).news_at) (by intro u hu; rw [List.mem_singleton] at hu; rw [hu]; rfl) (by have := HFL.out; omega) (by have := HB.out.size; simp; omega) ?_
        intro g3 cap3 w3 ho3 hg3 hb3 _ _
        have e4 : Ns (flt x j) ++ [.int .i64 (j : Int)] = Ns (flt x (j + 1)) := by rw [HF.out]; simp [Ns]
        have e5 : (flt x j).length + 1 = (flt x (j + 1)).length := by rw [HF.out]; simp
        rw [e4, e5] at ho3
        have HO3 := Lib.hid ho3
        have HB3 : Hid (Below W.heap.size W w3) := Lib.hid ((HB.out.alloc HB.out.size _).trans hb3)
        rw [e5]
        obtain ⟨m3, hm3⟩ : ∃ m3, m3 = (flt x (j + 1)).length := ⟨_, rfl⟩
        rw [← hm3]
        have HM3 := Lib.hid hm3
        clear ho3 hb3 hg3 e4 e5 hm3
        gi_wp2
        go_roundw
        case rel => exact ⟨j + 1, by omega, by go_num, by rw [← HM3.out]; rw [← HM3.out] at HO3; exact HO3.out, HB3.out⟩
        case measure => simp [intOf]; omega
    · obtain rfl : j = n := by omega
      have hNs := HU.out.bx.lt
      have hss := HU.out.own.lt
      have hgs := HU.out.row.lt
      have SR0 := sort_row HU2.out hNs hss hgs HB.out.size (by rw [← HN.out]; exact HO.out)
      have HL : Hid ((ordN x).length ≤ 19) := Lib.hid (by have := ordN_len x; have := HN.out; omega)
      obtain ⟨m, hm⟩ : ∃ m, m = (ordN x).length := ⟨_, rfl⟩
      unfold RowN at SR0
      rw [← hm] at SR0
      have SR := Lib.hid SR0
      have HM := Lib.hid hm
      have hm19 : (m : Int) ≤ 19 := by have := HL.out; omega
      have LENH : Hid (∀ (A : Option Addr) (cap : Nat) (W : World), (Builtin.len_ #[95] 3 #[Value.slice A m cap]).run Tryz.prog W = .ok (.int .i64 m) W) := Lib.hid (fun A cap W => by
        cases A <;> simp [Builtin.len_, go_sem])
      clear hNs hss hgs c0 c1 SR0 hm
      gi_wp2_with (refine ⟨trivial, fun h => (by cases h), ?_⟩; gi_at_call 79; refine (callsIn_wide.2 SR.out).mono ?_; rintro e w5 ⟨rfl, ⟨A, cap, hv, hcell⟩, hb5⟩; subst hv; have HCELL := Lib.hid hcell; have HB5 := Lib.hid (HB.out.trans hb5); have LEN := LENH.out A cap w5; clear hcell hb5)
      have HRN : Hid (RowN W.heap.size (.slice A m cap) (ordN x) w5) := Lib.hid ⟨A, cap, by rw [HM.out], by rw [← HM.out]; exact HCELL.out⟩
      gi_loopw [32] (fun i wr => ∃ j : Nat, j ≤ m ∧ i = .int .i64 j ∧ J j wr ∧ UsA q s g N x wr ∧ RowN W.heap.size (.slice A m cap) (ordN x) wr) (fun i _ => m - (intOf i).toNat)
      case atStart => exact ⟨0, Nat.zero_le _, rfl, HJ.out _ _ _ H0.out HB5.out, HU.out.below HB5.out, HRN.out⟩
      case round =>
        obtain ⟨i, him, rfl, hJi, hUi, hRi⟩ := hrel
        have HJI := Lib.hid hJi
        have HUI := Lib.hid hUi
        have HRI := Lib.hid hRi
        have c0 := hUi.bx.cell 0
        have c1 : wr.cell? ⟨s, 1, none⟩ = some (.slice (some ⟨g, 0, none⟩) j j) := by rw [HN.out]; exact hUi.own.cell 1
        simp only [List.getElem?_cons_zero] at c0
        clear hJi hUi hRi LEN
        by_cases hlt2 : i < m
        · have j1 : (i : Int) < (m : Int) := by omega
          obtain ⟨A2, cap2, e2, hgo⟩ := HRI.out
          obtain ⟨go, rest, hAe, hgB, hrow⟩ := hgo (by rw [← HM.out]; omega)
          have e3 : A = A2 := by
            injection e2
          rw [← e3] at hAe
          subst hAe
          obtain ⟨b, hb⟩ : ∃ b, b = nn (ordN x) i := ⟨_, rfl⟩
          have hcb : wr.cell? ⟨go, i, none⟩ = some (.int .i64 (b : Int)) := by rw [hb]; exact hrow.num (by rw [← HM.out]; exact hlt2)
          have hbx : b < j := by rw [hb, HN.out]; exact (mem_ordN.1 (nn_mem _ _ (by rw [← HM.out]; exact hlt2))).1
          have b1 : (b : Int) < (j : Int) := by omega
          have HGT : Hid ((usL x)[i]? = some (b, bkN x.bs b)) := Lib.hid (by rw [hb]; exact usL_get x (by rw [← HM.out]; exact hlt2))
          have hblk := HUI.out.blk (b := b) (by rw [← HN.out]; exact hbx)
          have HBK := Lib.hid hblk
          have HBL : Hid ((bkC (bkN x.bs b)).length = 66) := Lib.hid (bk_len (HUI.out.ok _ (List.mem_of_getElem? (bkN_get (by rw [← HN.out]; exact hbx)))))
          obtain ⟨fn, tmps, assign, body, hy, hR⟩ := HY.out i _ wr HGT.out HJI.out
          unfold usE bkV at hy
          clear hb hrow hbx hblk e2 e3 hgo hgB
          gi_wp2_with (first
            | (refine wpListIn_ldr_w _ rfl rfl rfl Tryz.underlying101 rfl bk_size HBL.out HBK.out ?_))
          refine ⟨fun h => (by cases h), (round_out hR).mono ?_⟩
          rintro e W3 (⟨rfl, hJ3, hk3⟩ | ⟨rfl, hJx3, _⟩)
          · have HJ3 := Lib.hid hJ3
            have HU3 := Lib.hid (HUI.out.keep kN ks kg hk3)
            have HR3 := Lib.hid (HRI.out.keep HWW.out.size hk3)
            clear hJ3 hk3
            gi_wp2
            go_roundw
            case rel => exact ⟨i + 1, by omega, by go_num, HJ3.out, HU3.out, HR3.out⟩
            case measure => simp [intOf]; omega
          · have HJ3 := Lib.hid hJx3
            have HIM : Hid (i < (usL x).length) := Lib.hid (by rw [usL_len, ← HM.out]; exact hlt2)
            clear hJx3
            gi_wp2
            refine bodyPost_ret (results_none rfl _ _ _) rfl ?_
            exact ⟨⟨_, rfl⟩, .inr ⟨_, HIM.out, HJ3.out⟩⟩
        · obtain rfl : i = m := by omega
          have HIM : Hid (i = (usL x).length) := Lib.hid (by rw [usL_len, ← HM.out])
          gi_wp2
          go_end0
          exact ⟨⟨_, rfl⟩, .inl (HIM.out ▸ HJI.out)⟩
end
theorem len_places (A : Option Addr) (n cap : Nat) (W : World) : (Builtin.len_ #[109] 3 #[Value.slice A n cap]).run Tryz.prog W = .ok (.int .i64 n) W := by
  cases A <;> simp [Builtin.len_, go_sem]
theorem usL_ord {x : StoM} {i : Nat} {y : Nat × BlkM} (h : (usL x)[i]? = some y) : (ordN x)[i]? = some y.1 := by
  unfold usL at h
  rw [List.getElem?_map, Option.map_eq_some_iff] at h
  obtain ⟨b, hb, rfl⟩ := h
  exact hb
theorem tail_some {x : StoM} {i : Nat} {b : Nat} (h : (ordN x)[i]? = some b) (h1 : lNeeded (cnt x.bs) (b : Int) = []) (h2 : ∀ j c, j < i → (ordN x)[j]? = some c → lNeeded (cnt x.bs) (c : Int) ≠ []) : tailB x = some b := by
  unfold tailB
  rw [List.find?_eq_some_iff_getElem]
  obtain ⟨hi, hb⟩ := List.getElem?_eq_some_iff.1 h
  refine ⟨decide_eq_true h1, i, hi, hb, fun j hj => ?_⟩
  rw [Bool.not_eq_true', decide_eq_false_iff_not]
  exact h2 j _ hj (List.getElem?_eq_getElem (by omega))
theorem tail_none {x : StoM} (h2 : ∀ j c, j < (ordN x).length → (ordN x)[j]? = some c → lNeeded (cnt x.bs) (c : Int) ≠ []) : tailB x = none := by
  unfold tailB
  rw [List.find?_eq_none]
  intro c hc hd
  obtain ⟨j, hj, rfl⟩ := List.getElem_of_mem hc
  exact h2 j _ hj (List.getElem?_eq_getElem hj) (of_decide_eq_true hd)
section
variable {B p f q s k g : Nat} {K : Nat → Prop} {d d' : DrvM} {x : StoM} {w w' : World}
attribute [local go_sem] Oper.semAt_some
structure RepI (B p f q s k g b1 b2 : Nat) (K K3 : Nat → Prop) (w0 : World) (d : DrvM) (x : StoM) (v : Int) (X : World) : Prop where
  sto : Sto B p f q s k g K3 d x X
  a1 : At X b1 30 [.pointer (some ⟨s, 0, none⟩)]
  a2 : At X b2 31 [.int .i64 v]
  t : Turned (May B K) w0 X
section
variable {b1 b2 l : Nat} {K3 : Nat → Prop} {w0 X Y : World} {v : Int}
theorem RepI.below (h : RepI B p f q s k g b1 b2 K K3 w0 d x v X) (hb : Below X.heap.size X Y) : RepI B p f q s k g b1 b2 K K3 w0 d x v Y :=
  ⟨h.sto.below hb, h.a1.kept (Turned.of_below hb (Nat.le_refl _) NoBlock) (fun h => h), h.a2.kept (Turned.of_below hb (Nat.le_refl _) NoBlock) (fun h => h), h.t.trans (Turned.of_below hb (Nat.le_refl _) _)⟩
def Marked' (l : Nat) (W W2 : World) : Prop := ∃ r o, W.heap[l]? = some (.deferred r) ∧ W2 = W.putObj l o ∧ o = .deferred none
theorem RepI.markD (h : RepI B p f q s k g b1 b2 K K3 w0 d x v X) (hj : d.f.job = 0) (hl : K3 l) (hn : w0.heap.size ≤ l) (hm : Marked' l X Y) : RepI B p f q s k g b1 b2 K K3 w0 d x v Y := by
  obtain ⟨r, o, hr, rfl, _⟩ := hm
  have hne : ∀ {b : Nat} {t : TypeId} {cs : List Value}, At X b t cs → b ≠ l := fun {b t cs} hA e => by
    subst e
    unfold At at hA
    rw [hr] at hA
    cases hA
  have t : Turned (Just l) X (X.putObj l o) := (Turned.refl _ X).grown (grownBy_putObj' X l _) (fun k e _ => by injection e with e; exact e.symm)
  exact ⟨h.sto.mine hj hl t, (World.putObj_heap_other (hne h.a1)).trans h.a1, (World.putObj_heap_other (hne h.a2)).trans h.a2, h.t.after t (fun i hi e => by unfold Just at e; omega)⟩
theorem T9' (X : World) (b D : Nat) (u : Value) {o : Obj} (h : X.heap[D]? = some o) (hD : D ≠ b) : (X.setCell ⟨b, 0, none⟩ u).heap[D]? = some o := by
  have t : Turned (Just b) X (X.setCell ⟨b, 0, none⟩ u) := (Turned.refl (Just b) X).setCell (p := ⟨b, 0, none⟩) (fun _ => rfl) _
  exact (t.block D (Array.getElem?_eq_some_iff.1 h).1 (fun e => hD e)).trans h
theorem RepI.mark (h : RepI B p f q s k g b1 b2 K K3 w0 d x v X) (hj : d.f.job = 0) (hl : K3 l) (hn : w0.heap.size ≤ l) (hm : Marked l X Y) : RepI B p f q s k g b1 b2 K K3 w0 d x v Y :=
  ⟨h.sto.mine hj hl hm.turned, hm.at_ h.a1, hm.at_ h.a2, h.t.after hm.turned (fun i hi e => by unfold Just at e; omega)⟩
end
set_option maxRecDepth 100000 in
set_option maxHeartbeats 1000000 in
theorem Sto.repair (h : Sto B p f q s k g K d x w) (ok : DrvOk k d) (hk19 : k ≤ 19) (t0 : 0 ≤ d.t) (t1 : d.t ≤ 80000000000000) :
    Calls Tryz.prog 44 #[.pointer (some ⟨s, 0, none⟩)] w (StoOut B p f q s k K (mRep k d x) w) := by
  have hk2 := h.k2
  obtain ⟨W0, hW0⟩ : ∃ W0, W0 = (w.alloc (.cells #[.pointer (some ⟨s, 0, none⟩)] 30)).alloc (.cells #[.int .i64 0] 31) := ⟨_, rfl⟩
  have A1 : At W0 w.heap.size 30 [.pointer (some ⟨s, 0, none⟩)] := by rw [hW0]; exact (At.news w _ _).alloc _
  have A2 : At W0 (w.heap.size + 1) 31 [.int .i64 0] := by rw [hW0]; exact At.alloc_new _ _ _ (by simp) rfl
  have B0 : Below w.heap.size w W0 := by rw [hW0]; exact below_two w _ _
  obtain ⟨b2, hb2⟩ : ∃ b2, b2 = w.heap.size + 1 := ⟨_, rfl⟩
  obtain ⟨b1, hb1⟩ : ∃ b1, b1 = w.heap.size := ⟨_, rfl⟩
  obtain ⟨K2, hK2⟩ : ∃ K2 : Nat → Prop, K2 = fun i => K i ∨ i = b1 ∨ i = b2 := ⟨_, rfl⟩
  have HK1 : Hid (K2 b1) := Lib.hid (by rw [hK2]; exact .inr (.inl rfl))
  have HK2 : Hid (K2 b2) := Lib.hid (by rw [hK2]; exact .inr (.inr rfl))
  have HKK : Hid (∀ i, K i → K2 i) := Lib.hid (fun i e => by rw [hK2]; exact .inl e)
  have HK2D : Hid (∀ i, K2 i → K i ∨ i = b1 ∨ i = b2) := Lib.hid (fun i e => by rw [hK2] at e; exact e)
  have hS0 : Sto B p f q s k g K2 d x W0 := h.renew ok.calm.job B0 (fun i e => by
    rw [hK2] at e
    rcases e with e | rfl | rfl
    · exact ⟨.inl e, Nat.lt_of_lt_of_le (h.kin i e) B0.size⟩
    · exact ⟨.inr (by omega), by rw [hb1]; exact A1.lt⟩
    · exact ⟨.inr (by omega), by rw [hb2]; exact A2.lt⟩)
  rw [← hb2] at A2
  rw [← hb1] at A1
  have c1 : W0.cell? ⟨s, 1, none⟩ = some (.slice (some ⟨g, 0, none⟩) k k) := by rw [hS0.c1, h.len]
  have p1 : W0.cell? ⟨b1, 0, none⟩ = some (.pointer (some ⟨s, 0, none⟩)) := A1.cell 0
  have HB12 : Hid (b1 = w.heap.size ∧ b2 = w.heap.size + 1) := Lib.hid ⟨hb1, hb2⟩
  have hW0' := hW0.symm
  obtain ⟨RR, hRR⟩ : ∃ r, r = mFix d x (List.range k) := ⟨_, rfl⟩
  have HRR := Lib.hid hRR
  have HREP : Hid (mRep k d x = if RR.2.2 ≠ 0 then RR else mTail RR.1 RR.2.1) := Lib.hid (by rw [hRR]; rfl)
  have HKIN := Lib.hid h.kin
  have HBSZ := Lib.hid h.size
  have LENP := len_places
  have HS0 := Lib.hid hS0
  have HA1 := Lib.hid A1
  have HA2 := Lib.hid A2
  have HB0 := Lib.hid B0
  have HT := Lib.hid (show 0 ≤ d.t ∧ d.t ≤ 80000000000000 from ⟨t0, t1⟩)
  have HTL := Lib.hid (fun j => fix_ticks (List.range j) d x)
  have HCL := Lib.hid (fun j => fix_calm (List.range j) d x ok)
  clear h ok t0 t1 hRR hS0 A1 A2 B0 hK2 hb1 hb2 hW0
  refine (callsIn_wide (n := 10)).1 ?_
  refine callsIn_of_wp_marks Tryz.func44 rfl trivial ?_
  simp only [Tryz.ntmps44, List.size_toArray, List.length_cons, List.length_nil, Nat.reduceAdd, Nat.reduceSub, Array.replicate_succ, Array.replicate_zero, List.push_toArray, List.append_toArray, List.nil_append, List.cons_append]
  refine wpIn_wide.2 ?_
  go_upto_region 1 with (fail)
  rw [← HB12.out.2, ← HB12.out.1]
  clear hW0'
  go_wp2
  clear p1 c1
  go_loopw [11] (fun i wr => ∃ j : Nat, j ≤ k ∧ i = .int .i64 j ∧ (mFix d x (List.range j)).2.2 = 0 ∧ (∃ g', Sto B p f q s k g' K2 (mFix d x (List.range j)).1 (mFix d x (List.range j)).2.1 wr) ∧ At wr b1 30 [.pointer (some ⟨s, 0, none⟩)] ∧ At wr b2 31 [.int .i64 0] ∧ Turned (May B K) w wr) (fun i _ => k - (intOf i).toNat)
  case atStart => exact ⟨0, by omega, rfl, by rw [List.range_zero, mFix_nil], ⟨g, by rw [List.range_zero, mFix_nil]; exact HS0.out⟩, HA1.out, HA2.out, Turned.of_below HB0.out (Nat.le_refl _) _⟩
  case round =>
    obtain ⟨j, hj, rfl, he, ⟨g', hs⟩, ha1, ha2, htn⟩ := hrel
    obtain ⟨R0, hR0⟩ : ∃ R0, R0 = mFix d x (List.range j) := ⟨_, rfl⟩
    rw [← hR0] at he hs
    have p1 : wr.cell? ⟨b1, 0, none⟩ = some (.pointer (some ⟨s, 0, none⟩)) := ha1.cell 0
    have p2 : wr.cell? ⟨b2, 0, none⟩ = some (.int .i64 0) := ha2.cell 0
    have pf : wr.frozen? ⟨b2, 0, none⟩ = false := ha2.frozen 0
    have c1 : wr.cell? ⟨s, 1, none⟩ = some (.slice (some ⟨g', 0, none⟩) k k) := by rw [hs.c1, hs.len]
    have HE := Lib.hid he
    have HS := Lib.hid hs
    have HTN := Lib.hid htn
    have HTJ := Lib.hid (HTL.out j)
    have HCJ := Lib.hid (HCL.out j)
    have HAA1 := Lib.hid ha1
    have HAA2 := Lib.hid ha2
    rw [← hR0] at HTJ HCJ
    have HR0 := Lib.hid hR0
    clear he hs htn hR0 ha1 ha2
    by_cases hlt : j < k
    · have i0 : (0 : Int) ≤ (j : Int) := by omega
      have i1 : (j : Int) < (k : Int) := by omega
      have i2 : (k : Int) ≤ 64 := by omega
      have HR1 : Hid (mFix d x (List.range (j + 1)) = mFixS R0.1 R0.2.1 j) := Lib.hid (by rw [List.range_succ, mFix_snoc _ _ _ _ (by rw [← HR0.out]; exact HE.out), HR0.out])
      obtain ⟨hd, hhd⟩ : ∃ hd, hd = (bkN R0.2.1.bs j).head := ⟨_, rfl⟩
      have c2 : wr.cell? ⟨g', j * 66, none⟩ = some (.int .i64 hd) := by rw [hhd]; exact HS.out.blk hlt 0 _ (bk_head _)
      have HHD := Lib.hid hhd
      clear hhd
      by_cases h1 : hd = 1
      · have HR2 : Hid (mFix d x (List.range (j + 1)) = (R0.1, R0.2.1, 0)) := Lib.hid (by rw [HR1.out]; unfold mFixS; rw [if_pos (by rw [← HHD.out]; exact h1)])
        have e1 : (hd == 1) = true := by rw [beq_iff_eq]; exact h1
        clear h1
        go_wp2
        go_roundw
        case rel => exact ⟨j + 1, by omega, by go_num, by rw [HR2.out], ⟨g', by rw [HR2.out]; exact HS.out⟩, HAA1.out, HAA2.out, HTN.out⟩
        case measure => simp [intOf]; omega
      · obtain ⟨r, hr⟩ : ∃ r, r = mRenew R0.1 R0.2.1 j := ⟨_, rfl⟩
        have HR2 : Hid (mFix d x (List.range (j + 1)) = r) := Lib.hid (by rw [HR1.out]; unfold mFixS; rw [if_neg (by rw [← HHD.out]; exact h1), hr])
        have e1 : (hd == 1) = false := by rw [beq_eq_false_iff_ne]; exact h1
        have RN : Hid (Calls Tryz.prog 59 #[.pointer (some ⟨s, 0, none⟩), .int .i64 (j : Int)] wr (StoOut B p f q s k K2 r wr)) := Lib.hid (by
          rw [hr]
          have h1 := HTJ.out
          have h2 := HT.out
          rw [List.length_range] at h1
          exact HS.out.renews HCJ.out j hlt (by omega) (by omega))
        have HRJ : Hid (r.1.f.job = 0) := Lib.hid (by rw [hr]; exact (renew_calm HCJ.out R0.2.1 j).calm.job)
        clear hr h1
        go_upto_region 6 with (go_at_call 59; (refine RN.out.mono ?_); rintro e w5 ⟨rfl, ⟨g5, hs5⟩, ht5⟩; have HS5 := Lib.hid hs5; have HT5 := Lib.hid ht5; clear hs5 ht5)
        have HA15 : Hid (At w5 b1 30 [.pointer (some ⟨s, 0, none⟩)]) := Lib.hid (HAA1.out.kept HT5.out (fun e => e.2 HK1.out))
        have HA25 : Hid (At w5 b2 31 [.int .i64 0]) := Lib.hid (HAA2.out.kept HT5.out (fun e => e.2 HK2.out))
        have HT15 : Hid (Turned (May B K) w w5) := Lib.hid (HTN.out.trans (may_less HT5.out HKK.out))
        have q2 : w5.cell? ⟨b2, 0, none⟩ = some (.int .i64 0) := HA25.out.cell 0
        have qf : w5.frozen? ⟨b2, 0, none⟩ = false := HA25.out.frozen 0
        by_cases e0 : r.2.2 = 0
        · have HE0 := Lib.hid e0
          have e1 : (r.2.2 != 0) = false := by rw [bne_eq_false_iff_eq]; exact e0
          clear e0
          go_wp2_with fail
          go_roundw
          case rel => exact ⟨j + 1, by omega, by go_num, by rw [HR2.out]; exact HE0.out, ⟨g5, by rw [HR2.out]; exact HS5.out⟩, HA15.out, HA25.out, HT15.out⟩
          case measure => simp [intOf]; omega
        · have HE0 := Lib.hid e0
          have e1 : (r.2.2 != 0) = true := by rw [bne_iff_ne]; exact e0
          clear e0
          have HRF : Hid (RR = r) := Lib.hid (by
            have hsp : List.range k = List.range (j + 1) ++ (List.range k).drop (j + 1) := by
              have := List.take_append_drop (j + 1) (List.range k)
              rw [List.take_range, Nat.min_eq_left (by omega)] at this
              exact this.symm
            have h2 := mFix_stop ((List.range k).drop (j + 1)) (List.range (j + 1)) d x (by rw [HR2.out]; exact HE0.out)
            rw [← hsp, HR2.out] at h2
            rw [HRR.out, h2])
          go_wp2_with fail
          have A9 := HA25.out.put 0 (.int .i64 r.2.2)
          have T9 : Turned (Just b2) w5 (w5.setCell ⟨b2, 0, none⟩ (.int .i64 r.2.2)) := (Turned.refl (Just b2) w5).setCell (p := ⟨b2, 0, none⟩) (fun _ => rfl) _
          refine post_ret (err_res1 Tryz.results44 _ rfl A9) ?_
          rw [HREP.out, HRF.out, if_pos HE0.out]
          exact ⟨rfl, ⟨g5, (HS5.out.mine HRJ.out HK2.out T9).less HKK.out⟩, HT15.out.after T9 (fun i hi h => by unfold Just at h; have := HB12.out.2; omega)⟩
    · have hjk : j = k := by omega
      subst hjk
      have HRF : Hid (RR = R0) := Lib.hid (by rw [HRR.out, HR0.out])
      obtain ⟨⟨d1, x1, e1⟩, hR0e⟩ : ∃ r, r = R0 := ⟨_, rfl⟩
      obtain rfl : R0 = (d1, x1, e1) := hR0e.symm
      dsimp only at *
      obtain rfl : e1 = 0 := HE.out
      have HRT : Hid (mRep j d x = mTail d1 x1) := Lib.hid (by rw [HREP.out, HRF.out]; exact if_neg (fun h => h rfl))
      have HRD := HS.out.reads
      rw [HS.out.len] at HRD
      have CF0 := hasB_any HRD (by omega)
      cases hem : x1.bs.any bkEmpty with
      | true =>
        rw [hem] at CF0
        have CF := Lib.hid CF0
        have HRM : Hid (mRep j d x = (d1, x1, 0)) := Lib.hid (by rw [HRT.out]; unfold mTail; rw [if_pos hem])
        clear hem CF0 HRD hR0e
        go_upto_region 10 with (go_at_call 61; (refine CF.out.mono ?_); rintro e w5 ⟨rfl, hb5⟩; have HB5 := Lib.hid hb5; clear hb5)
        have HA25 : Hid (At w5 b2 31 [.int .i64 0]) := Lib.hid (HAA2.out.kept (Turned.of_below HB5.out (Nat.le_refl _) NoBlock) (fun h => h))
        have q2 : w5.cell? ⟨b2, 0, none⟩ = some (.int .i64 0) := HA25.out.cell 0
        have qf : w5.frozen? ⟨b2, 0, none⟩ = false := HA25.out.frozen 0
        go_wp2_with fail
        have A9 := HA25.out.put 0 (.int .i64 0)
        have T9 : Turned (Just b2) w5 (w5.setCell ⟨b2, 0, none⟩ (.int .i64 0)) := (Turned.refl (Just b2) w5).setCell (p := ⟨b2, 0, none⟩) (fun _ => rfl) _
        refine post_ret (err_res1 Tryz.results44 _ rfl A9) ?_
        rw [HRM.out]
        exact ⟨rfl, ⟨g', ((HS.out.below HB5.out).mine HCJ.out.calm.job HK2.out T9).less HKK.out⟩, (HTN.out.trans (Turned.of_below HB5.out (Nat.le_refl _) _)).after T9 (fun i hi h => by unfold Just at h; have := HB12.out.2; omega)⟩
      | false =>
        rw [hem] at CF0
        have CF := Lib.hid CF0
        have HRT2 : Hid (mRep j d x = mTl d1 x1) := Lib.hid (by
          rw [HRT.out]
          unfold mTail
          rw [if_neg (by rw [hem]; decide)])
        have HRJ : Hid ((mRep j d x).1.f.job = 0) := Lib.hid (by rw [HRT.out]; exact (mTail_calm HCJ.out x1).calm.job)
        clear hem CF0 HRD hR0e p2 pf
        go_wp2_with (first
          | (go_at_call 61; (refine CF.out.mono ?_); rintro e w5 ⟨rfl, hb5⟩; have HB5 := Lib.hid hb5; have q1 : w5.cell? ⟨b1, 0, none⟩ = some (.pointer (some ⟨s, 0, none⟩)) := (HAA1.out.kept (Turned.of_below hb5 (Nat.le_refl _) NoBlock) (fun h => h)).cell 0; clear hb5)
          | (go_at_call 63; (refine (usable_of _ _).mono ?_); rintro e w6 ⟨rfl, hw6⟩; obtain rfl := hw6.symm))
        obtain ⟨V, hV⟩ : ∃ V, V = w5.alloc (.cells #[.pointer (some ⟨s, 0, none⟩)] 30) := ⟨_, rfl⟩
        rw [← hV]
        have HBV : Hid (Below wr.heap.size wr V) := Lib.hid (by rw [hV]; exact HB5.out.alloc HB5.out.size _)
        have vN : At V w5.heap.size 30 [.pointer (some ⟨s, 0, none⟩)] := by rw [hV]; exact At.news w5 _ _
        obtain ⟨N, hN⟩ : ∃ N, N = w5.heap.size := ⟨_, rfl⟩
        rw [← hN] at vN ⊢
        have hU := (HS.out.below HBV.out).us hk19 (N := N) (Below.refl _ _) vN
        have HSV := Lib.hid (HS.out.below HBV.out)
        have HVW : Hid (w.heap.size ≤ V.heap.size) := Lib.hid (Nat.le_trans HTN.out.size HBV.out.size)
        obtain ⟨K3, hK3⟩ : ∃ K3 : Nat → Prop, K3 = fun i => K2 i ∨ i = V.heap.size ∨ i = V.heap.size + 1 := ⟨_, rfl⟩
        have HK3a : Hid (K3 V.heap.size) := Lib.hid (by rw [hK3]; exact .inr (.inl rfl))
        have HK3b : Hid (K3 (V.heap.size + 1)) := Lib.hid (by rw [hK3]; exact .inr (.inr rfl))
        have HK3c : Hid (∀ i, K2 i → K3 i) := Lib.hid (fun i e => by rw [hK3]; exact .inl e)
        have HAV1 : Hid (At V b1 30 [.pointer (some ⟨s, 0, none⟩)]) := Lib.hid (HAA1.out.kept (Turned.of_below HBV.out (Nat.le_refl _) NoBlock) (fun h => h))
        have HAV2 : Hid (At V b2 31 [.int .i64 0]) := Lib.hid (HAA2.out.kept (Turned.of_below HBV.out (Nat.le_refl _) NoBlock) (fun h => h))
        have I0 : ∀ W1, Below V.heap.size V W1 → W1.heap.size = V.heap.size + 2 → RepI B p f q s j g' b1 b2 K K3 w d1 x1 0 W1 ∧ ∀ (i c : Nat), i < 0 → (ordN x1)[i]? = some c → lNeeded (cnt x1.bs) (c : Int) ≠ [] := fun W1 hb hz =>
          ⟨⟨HSV.out.renew HCJ.out.calm.job hb (fun i e => by
            rw [hK3] at e
            rcases e with e | e | e
            · exact ⟨.inl e, by have := HSV.out.kin i e; omega⟩
            · exact ⟨.inr (by omega), by omega⟩
            · exact ⟨.inr (by omega), by omega⟩), HAV1.out.kept (Turned.of_below hb (Nat.le_refl _) NoBlock) (fun h => h), HAV2.out.kept (Turned.of_below hb (Nat.le_refl _) NoBlock) (fun h => h), (HTN.out.trans (Turned.of_below HBV.out (Nat.le_refl _) _)).trans (Turned.of_below hb (Nat.le_refl _) _)⟩, fun i c h => by omega⟩
        have HKW : Hid (∀ i, K3 i → K i ∨ w.heap.size ≤ i) := Lib.hid (fun i e => by
          by_cases hlt : w.heap.size ≤ i
          · exact .inr hlt
          · left
            rw [hK3] at e
            have h2 := HB12.out
            rcases e with e | e | e
            · have := HK2D.out i e
              rcases this with e | e | e
              · exact e
              · omega
              · omega
            · have := HVW.out; omega
            · have := HVW.out; omega)
        clear hV hN hK3 p1 c1 q1
        refine wpIn_wide.1 (range_outerJ (n := 10) (gf := 78) (lb := #[.pointer (some ⟨N, 0, none⟩)]) (encs := usE) (Kp := KpU V.heap.size (Kb3 N s g')) (xs := usL x1) (w0 := V) (m := 8)
          (I := fun (i : Nat) X => RepI B p f q s j g' b1 b2 K K3 w d1 x1 0 X ∧ ∀ (i' c : Nat), i' < i → (ordN x1)[i']? = some c → lNeeded (cnt x1.bs) (c : Int) ≠ [])
          (Ix := fun co _ X => co = .ret ∧ ∃ g5, RepI B p f q s j g5 b1 b2 K K3 w (mRep j d x).1 (mRep j d x).2.1 (mRep j d x).2.2 X)
          rfl (enters_of Tryz.func78 (by kernel_rfl) rfl) (us_seqJ _ (.inl rfl) (.inr (.inl rfl)) (.inr (.inr rfl)) hU) (Below.refl _ _) KpU.trans ?km (fun _ => rfl) ?ib ?im ?ix I0 ?rnd ?dn ?st)
        case km =>
          rintro X Y ⟨r, r', hr, rfl⟩
          exact KpU.put _ _ _ _ hr rfl
        case ib => exact fun i X Y h hb => ⟨h.1.below hb, h.2⟩
        case im => exact fun i X Y h hm => ⟨h.1.mark HCJ.out.calm.job HK3b.out (by have := HVW.out; omega) hm, h.2⟩
        case ix =>
          rintro co i X Y ⟨rfl, g5, h⟩ hm
          exact ⟨rfl, g5, h.mark HRJ.out HK3b.out (by have := HVW.out; omega) hm⟩
        case rnd =>
          have HLENP := Lib.hid LENP
          clear I0 hU vN LENP
          rintro i y X ⟨rr, hrr⟩ ⟨hI, hF⟩ hx
          have HO := Lib.hid (usL_ord hx)
          have HXL : Hid (V.heap.size + 1 < X.heap.size) := Lib.hid (Array.getElem?_eq_some_iff.1 hrr).1
          have HYJ : Hid (y.1 < j) := Lib.hid (by
            have := (mem_ordN.1 (List.mem_of_getElem? HO.out)).1
            rw [HS.out.len] at this
            exact this)
          have HII := Lib.hid hI
          have HF := Lib.hid hF
          clear hI hF hx hrr
          unfold usE
          gi_wp2_with fail
          refine ⟨⟨Nat.le_refl _, rfl, fun _ _ => rfl⟩, KpU.refl _ _ _, ⟨HII.out, HF.out⟩, ?_⟩
          intro X2 hmk
          have hI2 := HII.out.mark HCJ.out.calm.job HK3b.out (by have := HVW.out; omega) hmk
          have HI2 := Lib.hid hI2
          have HX2L : Hid (V.heap.size + 1 < X2.heap.size) := Lib.hid (Nat.lt_of_lt_of_le HXL.out hmk.turned.size)
          have r1 : X2.cell? ⟨b1, 0, none⟩ = some (.pointer (some ⟨s, 0, none⟩)) := hI2.a1.cell 0
          have r2 : X2.cell? ⟨s, 1, none⟩ = some (.slice (some ⟨g', 0, none⟩) j j) := by rw [hI2.sto.c1, hI2.sto.len]
          have RDS := hI2.sto.reads
          rw [hI2.sto.len] at RDS
          have ND := Lib.hid (lneeded_any _ _ _ _ (y.1 : Int) X2 RDS (by omega))
          obtain ⟨nd, hnd⟩ : ∃ nd, nd = (lNeeded (cnt x1.bs) (y.1 : Int)).length := ⟨_, rfl⟩
          rw [← hnd] at ND
          have HND := Lib.hid hnd
          clear hI2 RDS hnd hmk
          by_cases h0 : nd = 0
          · have HNE : Hid (lNeeded (cnt x1.bs) (y.1 : Int) = []) := Lib.hid (List.eq_nil_of_length_eq_zero (by rw [← HND.out]; exact h0))
            subst h0
            have HTB : Hid (mRep j d x = mRenew d1 x1 y.1) := Lib.hid (by rw [HRT2.out]; exact mTl_some (tail_some HO.out HNE.out HF.out))
            gi_wp2_with (first
              | (refine ⟨trivial, ?_⟩; gi_at_call 64; refine (CallsIn.inRound _ (callsIn_wide.2 ND.out)).mono ?_; rintro e X3 ⟨B3, c3, rfl, _, hb3⟩; have HB3 := Lib.hid hb3; have HI3 := Lib.hid (HI2.out.below hb3); have s1 : X3.cell? ⟨b1, 0, none⟩ = some (.pointer (some ⟨s, 0, none⟩)) := HI3.out.a1.cell 0; have LEN := HLENP.out B3 0 c3 X3; clear hb3)
              | (refine ⟨trivial, ?_⟩; gi_at_call 59; refine (CallsIn.inRound _ (callsIn_wide.2 (HI3.out.sto.renews HCJ.out y.1 HYJ.out (by have h1 := HTJ.out; have h2 := HT.out; rw [List.length_range] at h1; omega) (by have h1 := HTJ.out; have h2 := HT.out; rw [List.length_range] at h1; omega)))).mono ?_; rintro e X4 ⟨rfl, ⟨g4, s4⟩, t4⟩; have HS4 := Lib.hid s4; have HT4 := Lib.hid t4; have HA41 := Lib.hid (HI3.out.a1.kept t4 (fun e => e.2 (HK3c.out _ HK1.out))); have HA42 := Lib.hid (HI3.out.a2.kept t4 (fun e => e.2 (HK3c.out _ HK2.out))); have u2 : X4.cell? ⟨b2, 0, none⟩ = some (.int .i64 0) := HA42.out.cell 0; have uf : X4.frozen? ⟨b2, 0, none⟩ = false := HA42.out.frozen 0; clear s4 t4))
            have A9 := HA42.out.put 0 (.int .i64 (mRenew d1 x1 y.1).2.2)
            have T9 : Turned (Just b2) X4 (X4.setCell ⟨b2, 0, none⟩ (.int .i64 (mRenew d1 x1 y.1).2.2)) := (Turned.refl (Just b2) X4).setCell (p := ⟨b2, 0, none⟩) (fun _ => rfl) _
            have hX3 : V.heap.size + 1 < X3.heap.size := by have := HX2L.out; have := HB3.out.size; omega
            have hX4 : V.heap.size + 1 < X4.heap.size := Nat.lt_of_lt_of_le hX3 HT4.out.size
            have hDb : V.heap.size ≠ b2 ∧ V.heap.size + 1 ≠ b2 ∧ b1 ≠ b2 := by have := HAV2.out.lt; have := HB12.out; omega
            refine ⟨(KeepL.below HB3.out HX2L.out (fun D hD => by obtain rfl : D = V.heap.size := (by simpa using hD); have := HX2L.out; omega)).trans ((KeepL.turned HT4.out hX3 (fun D hD => by obtain rfl : D = V.heap.size := (by simpa using hD); omega) (fun e => e.2 HK3b.out) (fun D hD e => by obtain rfl : D = V.heap.size := (by simpa using hD); exact e.2 HK3a.out)).trans (KeepL.turned T9 hX4 (fun D hD => by obtain rfl : D = V.heap.size := (by simpa using hD); omega) (fun e => hDb.2.1 e) (fun D hD e => by obtain rfl : D = V.heap.size := (by simpa using hD); exact hDb.1 e))), rfl, g4, ?_⟩
            rw [HTB.out]
            exact ⟨HS4.out.mine (by rw [← HTB.out]; exact HRJ.out) (HK3c.out _ HK2.out) T9, HA41.out.kept T9 (fun e => hDb.2.2 e), A9, ((HI3.out.t.trans (may_less HT4.out (fun i e => HK3c.out _ (HKK.out i e)))).after T9 (fun i hi h => by unfold Just at h; have := HB12.out.2; omega))⟩
          · have e0 : ((nd : Int) == 0) = false := by rw [beq_eq_false_iff_ne]; omega
            have HNE : Hid (lNeeded (cnt x1.bs) (y.1 : Int) ≠ []) := Lib.hid (fun e => h0 (by rw [HND.out, e]; rfl))
            gi_wp2_with (first
              | (refine ⟨trivial, ?_⟩; gi_at_call 64; refine (CallsIn.inRound _ (callsIn_wide.2 ND.out)).mono ?_; rintro e X3 ⟨B3, c3, rfl, _, hb3⟩; have HB3 := Lib.hid hb3; have HI3 := Lib.hid (HI2.out.below hb3); have LEN := HLENP.out B3 nd c3 X3; clear hb3))
            refine ⟨KeepL.below HB3.out HX2L.out (fun D hD => by obtain rfl : D = V.heap.size := (by simpa using hD); have := HX2L.out; omega), KpU.turned (Turned.of_below HB3.out (Nat.le_refl _) NoBlock) (fun _ _ _ hk => hk.elim), HI3.out, fun i' c hlt hc => ?_⟩
            by_cases e : i' = i
            · subst e
              rw [HO.out] at hc
              injection hc with hc
              rw [← hc]
              exact HNE.out
            · exact HF.out i' c (by omega) hc
        case dn =>
          rintro X ⟨hI, hF⟩ hK
          have HII := Lib.hid hI
          have HKD := Lib.hid hK
          have HTB : Hid (mRep j d x = (d1, x1, 0)) := Lib.hid (by rw [HRT2.out]; exact mTl_none (tail_none (by rw [← usL_len]; exact hF)))
          have u2 : X.cell? ⟨b2, 0, none⟩ = some (.int .i64 0) := hI.a2.cell 0
          have uf : X.frozen? ⟨b2, 0, none⟩ = false := hI.a2.frozen 0
          clear hI hF hK I0 hU vN LENP
          go_wp2_with fail
          have A9 := HII.out.a2.put 0 (.int .i64 0)
          have T9 : Turned (Just b2) X (X.setCell ⟨b2, 0, none⟩ (.int .i64 0)) := (Turned.refl (Just b2) X).setCell (p := ⟨b2, 0, none⟩) (fun _ => rfl) _
          obtain ⟨Y, hY⟩ : ∃ Y, Y = X.setCell ⟨b2, 0, none⟩ (.int .i64 0) := ⟨_, rfl⟩
          rw [← hY] at A9 T9 ⊢
          have HY : RepI B p f q s j g' b1 b2 K K3 w d1 x1 0 Y := ⟨HII.out.sto.mine HCJ.out.calm.job (HK3c.out _ HK2.out) T9, HII.out.a1.kept T9 (fun e => by unfold Just at e; have := HB12.out; omega), A9, HII.out.t.after T9 (fun i hi h => by unfold Just at h; have := HB12.out.2; omega)⟩
          have hKY : Y.heap[V.heap.size]? = some (.deferred (some [])) := by
            rw [hY]
            exact (T9' X _ _ _ HKD.out (by have := HVW.out; have := HB12.out; have := HAV2.out.lt; omega))
          have hmk : Marked' V.heap.size Y (Y.putObj V.heap.size (.deferred none)) := ⟨_, _, hKY, rfl, rfl⟩
          have HZ := HY.markD HCJ.out.calm.job HK3a.out HVW.out hmk
          refine post_mark hKY (err_res1 Tryz.results44 _ rfl HZ.a2) ?_
          rw [HTB.out]
          exact ⟨rfl, ⟨g', HZ.sto.less (fun i e => HK3c.out _ (HKK.out i e))⟩, HZ.t⟩
        case st =>
          rintro co i X hi ⟨rfl, g5, h⟩ hK
          have HII := Lib.hid h
          have HKD := Lib.hid hK
          clear h hK I0 hU vN LENP
          gi_wp2_with fail
          have hmk : Marked' V.heap.size X (X.putObj V.heap.size (.deferred none)) := ⟨_, _, HKD.out, rfl, rfl⟩
          have HZ := HII.out.markD HRJ.out HK3a.out HVW.out hmk
          refine post_mark HKD.out (err_res1 Tryz.results44 _ rfl HZ.a2) ?_
          exact ⟨rfl, ⟨g5, HZ.sto.less (fun i e => HK3c.out _ (HKK.out i e))⟩, HZ.t⟩
end
end Go.Proofs.YtnfgpjfldgocaaaGreat
