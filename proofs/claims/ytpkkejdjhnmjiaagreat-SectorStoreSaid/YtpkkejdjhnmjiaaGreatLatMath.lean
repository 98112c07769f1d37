/- Places of pages, as plain data (layer latest, chapter 7 of the document). | Facts about the latest places (layer latest): what is lost without a block, what one page more changes. -/
import Derived.Test.YtpkkejdjhnmjiaaGreatScanMath
namespace Go.Proofs.YtpkkejdjhnmjiaaGreat
open Go.RowKit Bm
structure PlM where
  b : Int
  i : Int
  p : PageM
  deriving DecidableEq, Inhabited
def plC (x : PlM) : List Value := [.int .i64 x.b, .int .i64 x.i] ++ pgC x.p
def plV (x : PlM) : Value := .agg (plC x).toArray
def pl0 : PlM := ⟨0, 0, pg0⟩
def pls (l : List PlM) : List Value := l.flatMap plC
def plN (l : List PlM) (i : Nat) : PlM := l.getD i pl0
def cntB (bs : List BlkM) (b k : Nat) : List PlM := (List.range k).flatMap fun i => if nm (bkN bs b).kinds i = 1 then [⟨b, i, pgN (bkN bs b).pages i⟩] else []
def cntU (bs : List BlkM) (j : Nat) : List PlM := (List.range j).flatMap fun b => cntB bs b 8
def cnt (bs : List BlkM) : List PlM := cntU bs bs.length
def lFind (t : List PlM) (s : BitVec 32) : Option PlM := t.find? fun x => decide (x.p.s = s)
def lIns : List PlM → PlM → List PlM
  | [], x => [x]
  | y :: t, x => if U x.p.s ≤ U y.p.s then x :: (y :: t).filter (fun z => decide (z.p.s ≠ x.p.s)) else y :: lIns t x
def ofS (t : List PlM) (x : PlM) : List PlM :=
  match lFind t x.p.s with
  | none => lIns t x
  | some o => if U o.p.q < U x.p.q then lIns t x else t
def lOf (all : List PlM) : List PlM := all.foldl ofS []
theorem plC_len (x : PlM) : (plC x).length = 9 := rfl
theorem pls_len (l : List PlM) : (pls l).length = 9 * l.length := by
  unfold pls
  induction l with
  | nil => rfl
  | cons p l ih => rw [List.flatMap_cons, List.length_append, ih, plC_len, List.length_cons]; omega
theorem plC_one (x : PlM) : ∀ u ∈ plC x, u.oneCell' = true := by
  intro u hu
  simp only [plC, pgC, List.mem_append, List.mem_cons, List.not_mem_nil, or_false] at hu
  rcases hu with (rfl | rfl) | (rfl | rfl | rfl | rfl | rfl | rfl | rfl) <;> rfl
theorem pls_snoc (l : List PlM) (x : PlM) : pls (l ++ [x]) = pls l ++ plC x := by simp [pls]
theorem plN_get {l : List PlM} {i : Nat} (h : i < l.length) : l[i]? = some (plN l i) := by
  unfold plN
  rw [List.getD_eq_getElem?_getD, List.getElem?_eq_getElem h]
  rfl
theorem pls_get {l : List PlM} {j : Nat} {x : PlM} (hj : l[j]? = some x) (i : Nat) (v : Value) (hv : (plC x)[i]? = some v) : (pls l)[j * 9 + i]? = some v := by
  induction l generalizing j with
  | nil => simp at hj
  | cons c l ih =>
    unfold pls at ih ⊢
    rw [List.flatMap_cons]
    have hl := plC_len c
    cases j with
    | zero =>
      simp only [List.getElem?_cons_zero, Option.some.injEq] at hj
      subst hj
      rw [Nat.zero_mul, Nat.zero_add, List.getElem?_append_left (List.getElem?_eq_some_iff.1 hv).1, hv]
    | succ j =>
      rw [List.getElem?_cons_succ] at hj
      rw [List.getElem?_append_right (by omega), hl, show (j + 1) * 9 + i - 9 = j * 9 + i by omega]
      exact ih hj
structure ReadsL (w : World) (A : Option Addr) (n cap : Nat) (xs : List PlM) : Prop where
  len : xs.length = n
  le : n ≤ cap
  max : cap ≤ maxLen
  cell : 0 < n → ∃ g off, A = some ⟨g, off, none⟩ ∧ g < w.heap.size ∧ ∀ j x, xs[j]? = some x → w.rangeAt g (off + j * 9) (plC x)
section
variable {w w' : World} {A : Option Addr} {n cap : Nat} {xs : List PlM}
theorem ReadsL.kept (h : ReadsL w A n cap xs) (hB : Below w.heap.size w w') : ReadsL w' A n cap xs :=
  ⟨h.len, h.le, h.max, fun hn => by
    obtain ⟨g, off, e, hlt, hc⟩ := h.cell hn
    exact ⟨g, off, e, Nat.lt_of_lt_of_le hlt hB.size, fun j b hb => range_kept (hc j b hb) (hB.block g hlt)⟩⟩
theorem ReadsL.at_ (h : ReadsL w A n cap xs) {j : Nat} (hj : j < n) : ∃ g off, A = some ⟨g, off, none⟩ ∧ g < w.heap.size ∧ w.rangeAt g (off + j * 9) (plC (plN xs j)) := by
  obtain ⟨g, off, e, hlt, hc⟩ := h.cell (by omega)
  exact ⟨g, off, e, hlt, hc j _ (plN_get (by rw [h.len]; exact hj))⟩
theorem ReadsL.of_at {g : Nat} {t : TypeId} {rest : List Value} (hA : At w g t (pls xs ++ rest)) (hc : xs.length ≤ cap) (hm : cap ≤ maxLen) : ReadsL w (some ⟨g, 0, none⟩) xs.length cap xs :=
  ⟨rfl, hc, hm, fun _ => ⟨g, 0, rfl, hA.lt, fun j b hj i v hv => by
    rw [hA.cell, Nat.zero_add, List.getElem?_append_left]
    · exact pls_get hj i v hv
    · exact (List.getElem?_eq_some_iff.1 (pls_get hj i v hv)).1⟩⟩
theorem ReadsL.none (w : World) : ReadsL w none 0 0 [] := ⟨rfl, Nat.le_refl _, Nat.zero_le _, fun h => absurd h (by omega)⟩
end
theorem cntB_succ (bs : List BlkM) (b k : Nat) : cntB bs b (k + 1) = cntB bs b k ++ (if nm (bkN bs b).kinds k = 1 then [⟨b, k, pgN (bkN bs b).pages k⟩] else []) := by
  unfold cntB
  rw [List.range_succ, List.flatMap_append, List.flatMap_singleton]
theorem cntU_succ (bs : List BlkM) (j : Nat) : cntU bs (j + 1) = cntU bs j ++ cntB bs j 8 := by
  unfold cntU
  rw [List.range_succ, List.flatMap_append, List.flatMap_singleton]
theorem mem_cntB {bs : List BlkM} {b k : Nat} {x : PlM} : x ∈ cntB bs b k ↔ ∃ i, i < k ∧ nm (bkN bs b).kinds i = 1 ∧ x = ⟨b, i, pgN (bkN bs b).pages i⟩ := by
  unfold cntB
  rw [List.mem_flatMap]
  constructor
  · rintro ⟨i, hi, h⟩
    split at h
    · exact ⟨i, by simpa using hi, by assumption, by simpa using h⟩
    · simp at h
  · rintro ⟨i, hi, h1, rfl⟩
    exact ⟨i, by simpa using hi, by rw [if_pos h1]; simp⟩
theorem mem_cnt {bs : List BlkM} {x : PlM} : x ∈ cnt bs ↔ ∃ b i, b < bs.length ∧ i < 8 ∧ nm (bkN bs b).kinds i = 1 ∧ x = ⟨b, i, pgN (bkN bs b).pages i⟩ := by
  unfold cnt cntU
  rw [List.mem_flatMap]
  constructor
  · rintro ⟨b, hb, h⟩
    obtain ⟨i, h1, h2, h3⟩ := mem_cntB.1 h
    exact ⟨b, i, by simpa using hb, h1, h2, h3⟩
  · rintro ⟨b, i, hb, h1, h2, h3⟩
    exact ⟨b, by simpa using hb, mem_cntB.2 ⟨i, h1, h2, h3⟩⟩
theorem cntB_len (bs : List BlkM) (b : Nat) : ∀ k, (cntB bs b k).length ≤ k
  | 0 => Nat.le_refl _
  | k + 1 => by
    rw [cntB_succ, List.length_append]
    have := cntB_len bs b k
    split <;> simp <;> omega
theorem cntU_len (bs : List BlkM) : ∀ j, (cntU bs j).length ≤ 8 * j
  | 0 => Nat.le_refl _
  | j + 1 => by
    rw [cntU_succ, List.length_append]
    have := cntU_len bs j
    have := cntB_len bs j 8
    omega
theorem lIns_len (x : PlM) : ∀ t : List PlM, (lIns t x).length ≤ t.length + 1
  | [] => Nat.le_refl _
  | y :: t => by
    unfold lIns
    have := lIns_len x t
    have h2 := List.length_filter_le (fun z : PlM => decide (z.p.s ≠ x.p.s)) (y :: t)
    split
    · rw [List.length_cons]; omega
    · simp only [List.length_cons]; omega
theorem lIns_mem {x z : PlM} : ∀ {t : List PlM}, z ∈ lIns t x → z = x ∨ z ∈ t
  | [], h => by unfold lIns at h; exact Or.inl (by simpa using h)
  | y :: t, h => by
    unfold lIns at h
    split at h
    · rcases List.mem_cons.1 h with h | h
      · exact .inl h
      · exact .inr (List.mem_filter.1 h).1
    · rcases List.mem_cons.1 h with h | h
      · exact .inr (by rw [h]; simp)
      · rcases lIns_mem h with h | h
        · exact .inl h
        · exact .inr (by simp [h])
def Rises (t : List PlM) : Prop := t.Pairwise fun a b => U a.p.s < U b.p.s
theorem lIns_rises {x : PlM} : ∀ {t : List PlM}, Rises t → Rises (lIns t x)
  | [], _ => by unfold lIns Rises; simp
  | y :: t, h => by
    have h' := List.pairwise_cons.1 h
    unfold lIns
    split
    · rename_i hle
      refine List.pairwise_cons.2 ⟨fun z hz => ?_, List.Pairwise.filter _ h⟩
      obtain ⟨hz1, hz2⟩ := List.mem_filter.1 hz
      have hz3 : z.p.s ≠ x.p.s := by simpa using hz2
      have : U x.p.s ≠ U z.p.s := fun e => hz3 (U_inj e).symm
      rcases List.mem_cons.1 hz1 with e | e
      · subst e; omega
      · have := h'.1 z e; omega
    · rename_i hle
      refine List.pairwise_cons.2 ⟨fun z hz => ?_, lIns_rises h'.2⟩
      rcases lIns_mem hz with e | e
      · subst e; omega
      · exact h'.1 z e
theorem find_filter (t : List PlM) (s r : BitVec 32) (h : s ≠ r) : lFind (t.filter fun z => decide (z.p.s ≠ r)) s = lFind t s := by
  unfold lFind
  induction t with
  | nil => rfl
  | cons y t ih =>
    by_cases hy : y.p.s ≠ r
    · rw [List.filter_cons_of_pos (by simpa using hy), List.find?_cons, List.find?_cons, ih]
    · rw [List.filter_cons_of_neg (by simpa using hy), ih, List.find?_cons]
      have : y.p.s ≠ s := fun e => h (by rw [← e]; exact Classical.not_not.1 hy)
      simp [this]
theorem lIns_find (x : PlM) (s : BitVec 32) : ∀ t : List PlM, lFind (lIns t x) s = if s = x.p.s then some x else lFind t s
  | [] => by
    unfold lIns lFind
    by_cases h : s = x.p.s
    · rw [if_pos h, List.find?_cons]; simp [h]
    · rw [if_neg h, List.find?_cons]; simp [Ne.symm h]
  | y :: t => by
    unfold lIns
    split
    · by_cases h : s = x.p.s
      · rw [if_pos h]; unfold lFind; rw [List.find?_cons]; simp [h]
      · rw [if_neg h, ← find_filter (y :: t) s x.p.s h]
        unfold lFind
        rw [List.find?_cons]
        simp [Ne.symm h]
    · rename_i hle
      have ih := lIns_find x s t
      unfold lFind at ih ⊢
      rw [List.find?_cons, List.find?_cons, ih]
      by_cases h : s = x.p.s
      · have : y.p.s ≠ s := fun e => hle (by rw [e, h]; exact Int.le_refl _)
        rw [if_pos h, if_pos h, decide_eq_false this]
      · by_cases hy : y.p.s = s <;> simp [hy, h]
def bestS (s : BitVec 32) (o : Option PlM) (y : PlM) : Option PlM :=
  if y.p.s = s then (match o with | none => some y | some z => if U z.p.q < U y.p.q then some y else some z) else o
def best (all : List PlM) (s : BitVec 32) : Option PlM := all.foldl (bestS s) none
theorem best_snoc (all : List PlM) (y : PlM) (s : BitVec 32) : best (all ++ [y]) s = bestS s (best all s) y := by unfold best; rw [List.foldl_append]; rfl
theorem lOf_snoc (all : List PlM) (y : PlM) : lOf (all ++ [y]) = ofS (lOf all) y := by unfold lOf; rw [List.foldl_append]; rfl
theorem list_snoc {α : Type} {P : List α → Prop} (h0 : P []) (h1 : ∀ l x, P l → P (l ++ [x])) : ∀ l, P l := by
  intro l
  have : ∀ n, ∀ l : List α, l.length = n → P l := by
    intro n
    induction n with
    | zero => intro l hl; rw [List.eq_nil_of_length_eq_zero hl]; exact h0
    | succ n ih =>
      intro l hl
      obtain ⟨l', x, rfl⟩ : ∃ l' x, l = l' ++ [x] := ⟨l.dropLast, l.getLast (by intro e; rw [e] at hl; simp at hl), (List.dropLast_concat_getLast _).symm⟩
      exact h1 l' x (ih l' (by simpa using hl))
  exact this _ l rfl
theorem of_rises : ∀ all : List PlM, Rises (lOf all) := by
  refine list_snoc (by unfold Rises lOf; simp) fun l x ih => ?_
  rw [lOf_snoc]
  unfold ofS
  split
  · exact lIns_rises ih
  · split
    · exact lIns_rises ih
    · exact ih
theorem of_find : ∀ (all : List PlM) (s : BitVec 32), lFind (lOf all) s = best all s := by
  refine list_snoc (fun s => rfl) fun l x ih s => ?_
  rw [lOf_snoc, best_snoc, ← ih s]
  unfold ofS bestS
  by_cases h : x.p.s = s
  · rw [if_pos h, h]
    cases hf : lFind (lOf l) s with
    | none => simp only; rw [lIns_find, if_pos h.symm]
    | some o =>
      simp only
      split
      · rw [lIns_find, if_pos h.symm]
      · exact hf
  · rw [if_neg h]
    split
    · rw [lIns_find, if_neg (Ne.symm h)]
    · split
      · rw [lIns_find, if_neg (Ne.symm h)]
      · rfl
theorem best_none : ∀ (all : List PlM) (s : BitVec 32), best all s = none ↔ ∀ y ∈ all, y.p.s ≠ s := by
  refine list_snoc (fun s => by simp [best]) fun l x ih s => ?_
  rw [best_snoc]
  unfold bestS
  by_cases h : x.p.s = s
  · rw [if_pos h]
    constructor
    · intro e
      cases hb : best l s with
      | none => rw [hb] at e; cases e
      | some z => rw [hb] at e; simp only at e; split at e <;> cases e
    · intro e; exact absurd h (e x (by simp))
  · rw [if_neg h, ih s]
    constructor
    · intro e y hy
      rcases List.mem_append.1 hy with hy | hy
      · exact e y hy
      · have : y = x := by simpa using hy
        rw [this]; exact h
    · intro e y hy; exact e y (by simp [hy])
theorem best_some : ∀ (all : List PlM) (s : BitVec 32) (z : PlM), best all s = some z → z ∈ all ∧ z.p.s = s ∧ ∀ y ∈ all, y.p.s = s → U y.p.q ≤ U z.p.q := by
  refine list_snoc (fun s z h => by cases h) fun l x ih s z h => ?_
  rw [best_snoc] at h
  unfold bestS at h
  by_cases hs : x.p.s = s
  · rw [if_pos hs] at h
    cases hb : best l s with
    | none =>
      rw [hb] at h
      simp only [Option.some.injEq] at h
      subst h
      refine ⟨by simp, hs, fun y hy he => ?_⟩
      rcases List.mem_append.1 hy with hy | hy
      · exact absurd he ((best_none l s).1 hb y hy)
      · have : y = x := by simpa using hy
        rw [this]; exact Int.le_refl _
    | some o =>
      rw [hb] at h
      obtain ⟨i1, i2, i3⟩ := ih s o hb
      simp only at h
      split at h
      · rename_i hlt
        simp only [Option.some.injEq] at h
        subst h
        refine ⟨by simp, hs, fun y hy he => ?_⟩
        rcases List.mem_append.1 hy with hy | hy
        · have := i3 y hy he; omega
        · have : y = x := by simpa using hy
          rw [this]; exact Int.le_refl _
      · rename_i hlt
        simp only [Option.some.injEq] at h
        subst h
        refine ⟨by simp [i1], i2, fun y hy he => ?_⟩
        rcases List.mem_append.1 hy with hy | hy
        · exact i3 y hy he
        · have : y = x := by simpa using hy
          rw [this]; omega
  · rw [if_neg hs] at h
    obtain ⟨i1, i2, i3⟩ := ih s z h
    refine ⟨by simp [i1], i2, fun y hy he => ?_⟩
    rcases List.mem_append.1 hy with hy | hy
    · exact i3 y hy he
    · have : y = x := by simpa using hy
      rw [this] at he; exact absurd he hs
theorem rises_find : ∀ {t : List PlM}, Rises t → ∀ {x : PlM}, x ∈ t → lFind t x.p.s = some x
  | [], _, x, h => by cases h
  | y :: t, h, x, hx => by
    have h' := List.pairwise_cons.1 h
    unfold lFind
    rw [List.find?_cons]
    rcases List.mem_cons.1 hx with e | e
    · subst e; simp
    · have hne : y.p.s ≠ x.p.s := fun c => by have := h'.1 x e; rw [c] at this; omega
      have := rises_find h'.2 e
      unfold lFind at this
      simp [hne, this]
theorem find_mem {t : List PlM} {s : BitVec 32} {x : PlM} (h : lFind t s = some x) : x ∈ t ∧ x.p.s = s := ⟨List.mem_of_find?_eq_some h, by simpa using List.find?_some h⟩
theorem rises_eq : ∀ {t u : List PlM}, Rises t → Rises u → (∀ s, lFind t s = lFind u s) → t = u
  | [], [], _, _, _ => rfl
  | [], y :: u, _, _, h => by have := h y.p.s; unfold lFind at this; rw [List.find?_cons] at this; simp at this
  | x :: t, [], _, _, h => by have := h x.p.s; unfold lFind at this; rw [List.find?_cons] at this; simp at this
  | x :: t, y :: u, ht, hu, h => by
    have ht' := List.pairwise_cons.1 ht
    have hu' := List.pairwise_cons.1 hu
    have hx := (rises_find ht (x := x) (by simp)).symm.trans (h x.p.s)
    have hy := (rises_find hu (x := y) (by simp)).symm.trans (h y.p.s).symm
    have mx := (find_mem hx.symm).1
    have my := (find_mem hy.symm).1
    have exy : x = y := by
      rcases List.mem_cons.1 mx with e | e
      · exact e
      · rcases List.mem_cons.1 my with e' | e'
        · exact e'.symm
        · have := hu'.1 x e; have := ht'.1 y e'; omega
    subst exy
    congr 1
    refine rises_eq ht'.2 hu'.2 fun s => ?_
    have hs := h s
    unfold lFind at hs ⊢
    rw [List.find?_cons, List.find?_cons] at hs
    by_cases e : x.p.s = s
    · rw [show (t.find? fun z => decide (z.p.s = s)) = none from List.find?_eq_none.2 (fun z hz => by have := ht'.1 z hz; intro c; have c' : z.p.s = s := (by simpa using c); rw [← e] at c'; rw [c'] at this; omega)]
      rw [show (u.find? fun z => decide (z.p.s = s)) = none from List.find?_eq_none.2 (fun z hz => by have := hu'.1 z hz; intro c; have c' : z.p.s = s := (by simpa using c); rw [← e] at c'; rw [c'] at this; omega)]
    · simpa [e] using hs
theorem of_is {t all : List PlM} (hr : Rises t) (h : ∀ s, lFind t s = best all s) : t = lOf all := rises_eq hr (of_rises all) fun s => (h s).trans (of_find all s).symm
theorem of_mem {all : List PlM} {x : PlM} (h : x ∈ lOf all) : best all x.p.s = some x := (of_find all _).symm.trans (rises_find (of_rises all) h)
theorem of_len : ∀ all : List PlM, (lOf all).length ≤ all.length := by
  refine list_snoc (Nat.le_refl _) fun l x ih => ?_
  rw [lOf_snoc, List.length_append, List.length_singleton]
  unfold ofS
  have := lIns_len x (lOf l)
  split
  · omega
  · split <;> omega
end Go.Proofs.YtpkkejdjhnmjiaaGreat
namespace Go.Proofs.YtpkkejdjhnmjiaaGreat
open Go.RowKit Bm
def Ahead (a b : PlM) : Prop := a.b < b.b ∨ (a.b = b.b ∧ a.i < b.i)
theorem cntB_ahead (bs : List BlkM) (b : Nat) : ∀ k, (cntB bs b k).Pairwise Ahead
  | 0 => List.Pairwise.nil
  | k + 1 => by
    rw [cntB_succ]
    refine List.pairwise_append.2 ⟨cntB_ahead bs b k, ?_, ?_⟩
    · split <;> simp
    · intro x hx y hy
      obtain ⟨i, hi, _, rfl⟩ := mem_cntB.1 hx
      split at hy
      · obtain rfl : y = _ := List.mem_singleton.1 hy
        exact .inr ⟨rfl, by simpa using hi⟩
      · simp at hy
theorem cntU_ahead (bs : List BlkM) : ∀ j, (cntU bs j).Pairwise Ahead
  | 0 => List.Pairwise.nil
  | j + 1 => by
    rw [cntU_succ]
    refine List.pairwise_append.2 ⟨cntU_ahead bs j, cntB_ahead bs j 8, ?_⟩
    intro x hx y hy
    unfold cntU at hx
    obtain ⟨b, hb, hx⟩ := List.mem_flatMap.1 hx
    obtain ⟨i, _, _, rfl⟩ := mem_cntB.1 hx
    obtain ⟨i', _, _, rfl⟩ := mem_cntB.1 hy
    refine .inl ?_
    have : b < j := by simpa using hb
    show (b : Int) < (j : Int)
    omega
theorem cnt_ahead (bs : List BlkM) : (cnt bs).Pairwise Ahead := cntU_ahead bs _
theorem bkN_set {bs : List BlkM} {k b : Nat} {x : BlkM} (h : k < bs.length) : bkN (bs.set k x) b = if b = k then x else bkN bs b := by
  unfold bkN
  rw [List.getD_eq_getElem?_getD, List.getD_eq_getElem?_getD]
  by_cases e : b = k
  · subst e; rw [if_pos rfl, List.getElem?_set_self h]; rfl
  · rw [if_neg e, List.getElem?_set_ne (Ne.symm e)]
theorem cnt_none {bs : List BlkM} (h : ∀ b i, b < bs.length → i < 8 → nm (bkN bs b).kinds i ≠ 1) : cnt bs = [] := by
  refine List.eq_nil_iff_forall_not_mem.2 fun x hx => ?_
  obtain ⟨b, i, h1, h2, h3, _⟩ := mem_cnt.1 hx
  exact h b i h1 h2 h3
end Go.Proofs.YtpkkejdjhnmjiaaGreat
