/- The order of places in which the program sorts them, and what a stable merge does, as plain data (layer latest). | Of sorted places the first ones of their sectors: the latest ones (layer latest). -/
import Derived.Test.YtpkkejdjhnmjiaaGreatLatMath
namespace Go.Proofs.YtpkkejdjhnmjiaaGreat
open Go.RowKit Bm
def cmpI (a b : BitVec 32) : Int := if U a < U b then -1 else if U b < U a then 1 else 0
def cmpP (x y : PlM) : Int := if cmpI x.p.s y.p.s ≠ 0 then cmpI x.p.s y.p.s else cmpI y.p.q x.p.q
def LtP (x y : PlM) : Prop := U x.p.s < U y.p.s ∨ (U x.p.s = U y.p.s ∧ (U y.p.q < U x.p.q ∨ (U x.p.q = U y.p.q ∧ Ahead x y)))
theorem cmpP_lt (x y : PlM) : cmpP x y < 0 ↔ (U x.p.s < U y.p.s ∨ (U x.p.s = U y.p.s ∧ U y.p.q < U x.p.q)) := by
  unfold cmpP cmpI
  by_cases h1 : U x.p.s < U y.p.s <;> by_cases h2 : U y.p.s < U x.p.s <;> by_cases h3 : U y.p.q < U x.p.q <;> by_cases h4 : U x.p.q < U y.p.q <;> simp [h1, h2, h3, h4] <;> omega
theorem lt_of_cmp {x y : PlM} (h : cmpP x y < 0) : LtP x y := by
  rw [cmpP_lt] at h
  unfold LtP
  omega
theorem lt_of_not {x y : PlM} (ho : Ahead x y) (h : ¬ cmpP y x < 0) : LtP x y := by
  rw [cmpP_lt] at h
  unfold LtP
  by_cases e : U x.p.s < U y.p.s
  · exact .inl e
  · by_cases e2 : U y.p.q < U x.p.q
    · exact .inr ⟨by omega, .inl e2⟩
    · exact .inr ⟨by omega, .inr ⟨by omega, ho⟩⟩
theorem LtP.trans {x y z : PlM} (h : LtP x y) (k : LtP y z) : LtP x z := by
  unfold LtP Ahead at *
  omega
theorem LtP.irrefl {x : PlM} (h : LtP x x) : False := by
  unfold LtP Ahead at h
  omega
theorem LtP.asymm {x y : PlM} (h : LtP x y) (k : LtP y x) : False := (h.trans k).irrefl
def Srt (xs : List PlM) (a b : Nat) : Prop := ∀ i j, a ≤ i → i < j → j < b → LtP (plN xs i) (plN xs j)
def Bef (xs : List PlM) (a m b : Nat) : Prop := ∀ i j, a ≤ i → i < m → m ≤ j → j < b → Ahead (plN xs i) (plN xs j)
structure Mix (a b : Nat) (xs ys : List PlM) : Prop where
  len : ys.length = xs.length
  out : ∀ i, ¬ (a ≤ i ∧ i < b) → plN ys i = plN xs i
  to : ∀ i, a ≤ i → i < b → ∃ j, a ≤ j ∧ j < b ∧ plN ys i = plN xs j
  of : ∀ j, a ≤ j → j < b → ∃ i, a ≤ i ∧ i < b ∧ plN ys i = plN xs j
theorem Mix.refl (a b : Nat) (xs : List PlM) : Mix a b xs xs := ⟨rfl, fun _ _ => rfl, fun i h k => ⟨i, h, k, rfl⟩, fun i h k => ⟨i, h, k, rfl⟩⟩
theorem Mix.trans {a b : Nat} {xs ys zs : List PlM} (h : Mix a b xs ys) (k : Mix a b ys zs) : Mix a b xs zs :=
  ⟨k.len.trans h.len, fun i hi => (k.out i hi).trans (h.out i hi), fun i h1 h2 => by
    obtain ⟨j, j1, j2, e⟩ := k.to i h1 h2
    obtain ⟨l, l1, l2, e'⟩ := h.to j j1 j2
    exact ⟨l, l1, l2, e.trans e'⟩, fun i h1 h2 => by
    obtain ⟨j, j1, j2, e⟩ := h.of i h1 h2
    obtain ⟨l, l1, l2, e'⟩ := k.of j j1 j2
    exact ⟨l, l1, l2, e'.trans e⟩⟩
theorem Mix.wide {a b c d : Nat} {xs ys : List PlM} (h : Mix a b xs ys) (hc : c ≤ a) (hd : b ≤ d) : Mix c d xs ys :=
  ⟨h.len, fun i hi => h.out i (by omega), fun i h1 h2 => by
    by_cases e : a ≤ i ∧ i < b
    · obtain ⟨j, j1, j2, ej⟩ := h.to i e.1 e.2
      exact ⟨j, by omega, by omega, ej⟩
    · exact ⟨i, h1, h2, h.out i e⟩, fun i h1 h2 => by
    by_cases e : a ≤ i ∧ i < b
    · obtain ⟨j, j1, j2, ej⟩ := h.of i e.1 e.2
      exact ⟨j, by omega, by omega, ej⟩
    · exact ⟨i, h1, h2, h.out i e⟩⟩
theorem Srt.part {xs : List PlM} {a b c d : Nat} (h : Srt xs a b) (hc : a ≤ c) (hd : d ≤ b) : Srt xs c d := fun i j h1 h2 h3 => h i j (by omega) h2 (by omega)
theorem Srt.out {xs ys : List PlM} {a b c d : Nat} (h : Srt xs c d) (k : Mix a b xs ys) (ho : d ≤ a ∨ b ≤ c) : Srt ys c d := fun i j h1 h2 h3 => by
  rw [k.out i (by omega), k.out j (by omega)]
  exact h i j h1 h2 h3
theorem Srt.join {xs : List PlM} {a m b : Nat} (h : Srt xs a m) (k : Srt xs m b) (hc : ∀ i j, a ≤ i → i < m → m ≤ j → j < b → LtP (plN xs i) (plN xs j)) : Srt xs a b := fun i j h1 h2 h3 => by
  by_cases e1 : j < m
  · exact h i j h1 h2 e1
  · by_cases e2 : m ≤ i
    · exact k i j e2 h2 h3
    · exact hc i j h1 (by omega) (by omega) h3
def swp (xs : List PlM) (i j : Nat) : List PlM := (xs.set i (plN xs j)).set j (plN xs i)
theorem plN_set (xs : List PlM) (i k : Nat) (y : PlM) (hi : i < xs.length) : plN (xs.set i y) k = if k = i then y else plN xs k := by
  unfold plN
  rw [List.getD_eq_getElem?_getD, List.getD_eq_getElem?_getD, List.getElem?_set]
  by_cases e : i = k
  · subst e
    simp [hi]
  · rw [if_neg e, if_neg (Ne.symm e)]
theorem swp_len (xs : List PlM) (i j : Nat) : (swp xs i j).length = xs.length := by simp [swp]
theorem plN_swp (xs : List PlM) (i j k : Nat) (hi : i < xs.length) (hj : j < xs.length) : plN (swp xs i j) k = if k = j then plN xs i else if k = i then plN xs j else plN xs k := by
  unfold swp
  rw [plN_set _ _ _ _ (by simpa using hj), plN_set _ _ _ _ hi]
theorem swp_mix {xs : List PlM} {a b i j : Nat} (hi : a ≤ i ∧ i < b) (hj : a ≤ j ∧ j < b) (hb : b ≤ xs.length) : Mix a b xs (swp xs i j) := by
  have P := fun k => plN_swp xs i j k (by omega) (by omega)
  refine ⟨swp_len _ _ _, fun k hk => ?_, fun k h1 h2 => ?_, fun k h1 h2 => ?_⟩
  · rw [P, if_neg (by omega), if_neg (by omega)]
  · by_cases e : k = j
    · exact ⟨i, hi.1, hi.2, by rw [P, if_pos e]⟩
    · by_cases e2 : k = i
      · exact ⟨j, hj.1, hj.2, by rw [P, if_neg e, if_pos e2]⟩
      · exact ⟨k, h1, h2, by rw [P, if_neg e, if_neg e2]⟩
  · by_cases e : k = i
    · exact ⟨j, hj.1, hj.2, by rw [P, if_pos rfl, e]⟩
    · by_cases e2 : k = j
      · exact ⟨i, hi.1, hi.2, by rw [P, if_pos rfl]; split <;> simp_all⟩
      · exact ⟨k, h1, h2, by rw [P, if_neg e2, if_neg e]⟩
structure InsAt (xs : List PlM) (a j i : Nat) : Prop where
  le : a ≤ j ∧ j ≤ i
  rest : ∀ p q, a ≤ p → p < q → q ≤ i → p ≠ j → q ≠ j → LtP (plN xs p) (plN xs q)
  back : ∀ q, j < q → q ≤ i → LtP (plN xs j) (plN xs q)
theorem InsAt.start {xs : List PlM} {a i : Nat} (h : Srt xs a i) (hi : a ≤ i) : InsAt xs a i i := ⟨⟨hi, Nat.le_refl _⟩, fun p q h1 h2 h3 h4 h5 => h p q h1 h2 (by omega), fun q h1 h2 => by omega⟩
theorem InsAt.done {xs : List PlM} {a j i : Nat} (h : InsAt xs a j i) (hs : j = a ∨ LtP (plN xs (j - 1)) (plN xs j)) : Srt xs a (i + 1) := fun p q h1 h2 h3 => by
  by_cases e1 : p = j
  · subst e1; exact h.back q h2 (by omega)
  · by_cases e2 : q = j
    · subst e2
      rcases hs with hs | hs
      · omega
      · by_cases e3 : p = q - 1
        · rw [e3]; exact hs
        · exact (h.rest p (q - 1) h1 (by omega) (by omega) e1 (by omega)).trans hs
    · exact h.rest p q h1 h2 (by omega) e1 e2
theorem InsAt.step {xs : List PlM} {a j i : Nat} (h : InsAt xs a j i) (hj : a < j) (hi : i < xs.length) (hl : LtP (plN xs j) (plN xs (j - 1))) : InsAt (swp xs j (j - 1)) a (j - 1) i := by
  have hle := h.le
  have P := fun k => plN_swp xs j (j - 1) k (by omega) (by omega)
  refine ⟨by omega, fun p q h1 h2 h3 h4 h5 => ?_, fun q h1 h2 => ?_⟩
  · rw [P, P, if_neg h4, if_neg h5]
    by_cases e1 : p = j
    · rw [if_pos e1, if_neg (by omega)]
      exact h.rest (j - 1) q (by omega) (by omega) h3 (by omega) (by omega)
    · rw [if_neg e1]
      by_cases e2 : q = j
      · rw [if_pos e2]
        exact h.rest p (j - 1) h1 (by omega) (by omega) e1 (by omega)
      · rw [if_neg e2]
        exact h.rest p q h1 h2 h3 e1 e2
  · rw [P, P, if_pos rfl, if_neg (by omega)]
    by_cases e2 : q = j
    · rw [if_pos e2]; exact hl
    · rw [if_neg e2]
      exact h.back q (by omega) h2
structure InsB (xs zs : List PlM) (a j i : Nat) : Prop where
  mix : Mix a (i + 1) xs zs
  ins : InsAt zs a j i
  cur : plN zs j = plN xs i
  old : ∀ p, a ≤ p → p ≤ i → p ≠ j → ∃ q, a ≤ q ∧ q < i ∧ plN zs p = plN xs q
theorem InsB.start {xs ys : List PlM} {a i : Nat} (hm : Mix a i xs ys) (hs : Srt ys a i) (hi : a ≤ i) : InsB xs ys a i i :=
  ⟨hm.wide (Nat.le_refl _) (by omega), InsAt.start hs hi, hm.out i (by omega), fun p h1 h2 h3 => hm.to p h1 (by omega)⟩
theorem InsB.step {xs zs : List PlM} {a j i : Nat} (h : InsB xs zs a j i) (hj : a < j) (hi : i < zs.length) (hl : LtP (plN zs j) (plN zs (j - 1))) : InsB xs (swp zs j (j - 1)) a (j - 1) i := by
  have hle := h.ins.le
  have P := fun k => plN_swp zs j (j - 1) k (by omega) (by omega)
  refine ⟨h.mix.trans (swp_mix (by omega) (by omega) (by omega)), h.ins.step hj hi hl, ?_, fun p h1 h2 h3 => ?_⟩
  · rw [P, if_pos rfl]; exact h.cur
  · rw [P, if_neg h3]
    by_cases e : p = j
    · rw [if_pos e]; exact h.old (j - 1) (by omega) (by omega) (by omega)
    · rw [if_neg e]; exact h.old p h1 h2 e
theorem InsB.ahead {xs zs : List PlM} {a j i : Nat} (h : InsB xs zs a j i) (hj : a < j) (ho : ∀ p, a ≤ p → p < i → Ahead (plN xs p) (plN xs i)) : Ahead (plN zs (j - 1)) (plN zs j) := by
  have hle := h.ins.le
  obtain ⟨q, q1, q2, e⟩ := h.old (j - 1) (by omega) (by omega) (by omega)
  rw [e, h.cur]
  exact ho q q1 q2
structure Rot (xs ys : List PlM) (a m b : Nat) : Prop where
  len : ys.length = xs.length
  at_ : ∀ k, plN ys k = if a ≤ k ∧ k < a + (b - m) then plN xs (k + (m - a)) else if a + (b - m) ≤ k ∧ k < b then plN xs (k - (b - m)) else plN xs k
theorem Rot.mix {xs ys : List PlM} {a m b : Nat} (h : Rot xs ys a m b) (h1 : a ≤ m) (h2 : m ≤ b) : Mix a b xs ys := by
  refine ⟨h.len, fun k hk => ?_, fun k k1 k2 => ?_, fun k k1 k2 => ?_⟩
  · rw [h.at_, if_neg (by omega), if_neg (by omega)]
  · by_cases e : k < a + (b - m)
    · exact ⟨k + (m - a), by omega, by omega, by rw [h.at_, if_pos ⟨k1, e⟩]⟩
    · exact ⟨k - (b - m), by omega, by omega, by rw [h.at_, if_neg (by omega), if_pos ⟨by omega, k2⟩]⟩
  · by_cases e : k < m
    · exact ⟨k + (b - m), by omega, by omega, by rw [h.at_, if_neg (by omega), if_pos ⟨by omega, by omega⟩]; congr 1; omega⟩
    · exact ⟨k - (m - a), by omega, by omega, by rw [h.at_, if_pos ⟨by omega, by omega⟩]; congr 1; omega⟩
theorem Rot.none {xs : List PlM} {a m b : Nat} (h1 : a ≤ m) (h2 : m ≤ b) (h : m = a ∨ b = m) : Rot xs xs a m b := by
  refine ⟨rfl, fun k => ?_⟩
  rcases h with h | h
  · subst h
    by_cases e : m ≤ k ∧ k < m + (b - m)
    · rw [if_pos e]; congr 1; omega
    · rw [if_neg e, if_neg (by omega)]
  · subst h
    rw [if_neg (by omega)]
    by_cases e : a + (b - b) ≤ k ∧ k < b
    · rw [if_pos e]; congr 1; omega
    · rw [if_neg e]
structure SwR (xs ys : List PlM) (a b c : Nat) : Prop where
  len : ys.length = xs.length
  at_ : ∀ k, plN ys k = if a ≤ k ∧ k < a + c then plN xs (k - a + b) else if b ≤ k ∧ k < b + c then plN xs (k - b + a) else plN xs k
theorem SwR.zero (xs : List PlM) (a b : Nat) : SwR xs xs a b 0 := ⟨rfl, fun k => by rw [if_neg (by omega), if_neg (by omega)]⟩
theorem SwR.step {xs ys : List PlM} {a b c : Nat} (h : SwR xs ys a b c) (hab : a + c < b) (hb : b + c < xs.length) : SwR xs (swp ys (a + c) (b + c)) a b (c + 1) := by
  refine ⟨(swp_len _ _ _).trans h.len, fun k => ?_⟩
  rw [plN_swp _ _ _ _ (by rw [h.len]; omega) (by rw [h.len]; omega), h.at_, h.at_, h.at_]
  by_cases e1 : k = b + c
  · rw [if_pos e1, if_neg (by omega), if_neg (by omega), if_neg (by omega), if_pos ⟨by omega, by omega⟩]; congr 1; omega
  · rw [if_neg e1]
    by_cases e2 : k = a + c
    · rw [if_pos e2, if_neg (by omega), if_neg (by omega), if_pos ⟨by omega, by omega⟩]; congr 1; omega
    · rw [if_neg e2]
      by_cases e3 : a ≤ k ∧ k < a + c
      · rw [if_pos e3, if_pos ⟨by omega, by omega⟩]
      · rw [if_neg e3, if_neg (show ¬ (a ≤ k ∧ k < a + (c + 1)) by omega)]
        by_cases e4 : b ≤ k ∧ k < b + c
        · rw [if_pos e4, if_pos ⟨by omega, by omega⟩]
        · rw [if_neg e4, if_neg (by omega)]
structure RotAt (xs zs : List PlM) (m i j : Nat) : Prop where
  len : zs.length = xs.length
  at_ : ∀ k, plN zs k = if m - i ≤ k ∧ k < m - i + j then plN xs (k + i) else if m - i + j ≤ k ∧ k < m + j then plN xs (k - j) else plN xs k
theorem RotAt.rot {xs zs : List PlM} {a m b : Nat} (h1 : a ≤ m) (h2 : m ≤ b) (h : RotAt xs zs m (m - a) (b - m)) : Rot xs zs a m b := by
  refine ⟨h.len, fun k => ?_⟩
  rw [h.at_, show m - (m - a) = a by omega, show m + (b - m) = b by omega]
theorem RotAt.more {xs ys zs : List PlM} {m i j : Nat} (hi : i ≤ m) (hj : j < i) (h : RotAt xs zs m i j) (hs : SwR xs ys (m - i) m j) : RotAt ys zs m (i - j) j := by
  refine ⟨h.len.trans hs.len.symm, fun k => ?_⟩
  rw [h.at_, hs.at_, hs.at_, hs.at_]
  by_cases e1 : m - i ≤ k ∧ k < m - i + j
  · rw [if_pos e1, if_neg (show ¬ (m - (i - j) ≤ k ∧ k < m - (i - j) + j) by omega), if_neg (show ¬ (m - (i - j) + j ≤ k ∧ k < m + j) by omega), if_pos e1]; congr 1; omega
  · rw [if_neg e1]
    by_cases e2 : m - i + j ≤ k ∧ k < m + j
    · rw [if_pos e2]
      by_cases e3 : m - (i - j) ≤ k ∧ k < m - (i - j) + j
      · rw [if_pos e3, if_neg (show ¬ (m - i ≤ k + (i - j) ∧ k + (i - j) < m - i + j) by omega), if_pos ⟨by omega, by omega⟩]; congr 1; omega
      · rw [if_neg e3, if_pos ⟨by omega, by omega⟩, if_neg (show ¬ (m - i ≤ k - j ∧ k - j < m - i + j) by omega), if_neg (by omega)]
    · rw [if_neg e2, if_neg (by omega), if_neg (by omega), if_neg e1, if_neg (by omega)]
theorem RotAt.less {xs ys zs : List PlM} {m i j : Nat} (hi : i ≤ m) (hj : i < j) (h : RotAt xs zs m i j) (hs : SwR xs ys (m - i) (m + j - i) i) : RotAt ys zs m i (j - i) := by
  refine ⟨h.len.trans hs.len.symm, fun k => ?_⟩
  rw [h.at_, hs.at_, hs.at_, hs.at_]
  by_cases e1 : m - i ≤ k ∧ k < m - i + j
  · rw [if_pos e1]
    by_cases e3 : m - i ≤ k ∧ k < m - i + (j - i)
    · rw [if_pos e3, if_neg (show ¬ (m - i ≤ k + i ∧ k + i < m - i + i) by omega), if_neg (by omega)]
    · rw [if_neg e3, if_pos ⟨by omega, by omega⟩, if_pos ⟨by omega, by omega⟩]; congr 1; omega
  · rw [if_neg e1]
    by_cases e2 : m - i + j ≤ k ∧ k < m + j
    · rw [if_pos e2, if_neg (by omega), if_neg (by omega), if_neg (show ¬ (m - i ≤ k ∧ k < m - i + i) by omega), if_pos ⟨by omega, by omega⟩]; congr 1; omega
    · rw [if_neg e2, if_neg (by omega), if_neg (by omega), if_neg (by omega), if_neg (by omega)]
theorem RotAt.last {xs ys zs : List PlM} {m i : Nat} (hi : i ≤ m) (h : RotAt xs zs m i i) (hs : SwR xs ys (m - i) m i) : zs.length = ys.length ∧ ∀ k, plN zs k = plN ys k := by
  refine ⟨h.len.trans hs.len.symm, fun k => ?_⟩
  rw [h.at_, hs.at_]
  by_cases e1 : m - i ≤ k ∧ k < m - i + i
  · rw [if_pos e1, if_pos e1]; congr 1; omega
  · rw [if_neg e1, if_neg e1]
    by_cases e2 : m - i + i ≤ k ∧ k < m + i
    · rw [if_pos e2, if_pos ⟨by omega, by omega⟩]; congr 1; omega
    · rw [if_neg e2, if_neg (by omega)]
theorem rot_is (xs : List PlM) (m i j : Nat) (hi : i ≤ m) (hj : m + j ≤ xs.length) : ∃ zs, RotAt xs zs m i j := by
  refine ⟨(List.range xs.length).map fun k => if m - i ≤ k ∧ k < m - i + j then plN xs (k + i) else if m - i + j ≤ k ∧ k < m + j then plN xs (k - j) else plN xs k, by simp, fun k => ?_⟩
  by_cases hk : k < xs.length
  · unfold plN
    rw [List.getD_eq_getElem?_getD, List.getElem?_map, List.getElem?_range hk]
    rfl
  · rw [if_neg (by omega), if_neg (by omega)]
    unfold plN
    rw [List.getD_eq_getElem?_getD, List.getD_eq_getElem?_getD, List.getElem?_eq_none (by simpa using hk), List.getElem?_eq_none (by omega)]
theorem Rot.up {xs ys : List PlM} {a k : Nat} (h : Rot xs ys a (a + 1) (k + 1)) (ha : a ≤ k) (hk : k + 1 < xs.length) : Rot xs (swp ys k (k + 1)) a (a + 1) (k + 1 + 1) := by
  refine ⟨(swp_len _ _ _).trans h.len, fun i => ?_⟩
  rw [plN_swp _ _ _ _ (by rw [h.len]; omega) (by rw [h.len]; omega), h.at_, h.at_, h.at_]
  by_cases e1 : i = k + 1
  · rw [if_pos e1, if_neg (by omega), if_pos ⟨by omega, by omega⟩, if_neg (by omega), if_pos ⟨by omega, by omega⟩]; congr 1; omega
  · rw [if_neg e1]
    by_cases e2 : i = k
    · rw [if_pos e2, if_neg (by omega), if_neg (by omega), if_pos ⟨by omega, by omega⟩]; congr 1; omega
    · rw [if_neg e2]
      by_cases e3 : a ≤ i ∧ i < k
      · rw [if_pos ⟨by omega, by omega⟩, if_pos ⟨by omega, by omega⟩]
      · rw [if_neg (by omega), if_neg (by omega), if_neg (by omega), if_neg (by omega)]
theorem Rot.up_of {xs ys : List PlM} {a m k : Nat} (hm : m = a + 1) (h : Rot xs ys a m (k + 1)) (ha : a ≤ k) (hk : k + 1 < xs.length) : Rot xs (swp ys k (k + 1)) a m (k + 1 + 1) := by
  subst hm
  exact h.up ha hk
theorem Rot.down {xs ys : List PlM} {m k : Nat} (h : Rot xs ys (k + 1) m (m + 1)) (hk : k + 1 ≤ m) (hm : m < xs.length) : Rot xs (swp ys (k + 1) k) k m (m + 1) := by
  refine ⟨(swp_len _ _ _).trans h.len, fun i => ?_⟩
  rw [plN_swp _ _ _ _ (by rw [h.len]; omega) (by rw [h.len]; omega), h.at_, h.at_, h.at_]
  by_cases e1 : i = k
  · rw [if_pos e1, if_pos ⟨by omega, by omega⟩, if_pos ⟨by omega, by omega⟩]; congr 1; omega
  · rw [if_neg e1]
    by_cases e2 : i = k + 1
    · rw [if_pos e2, if_neg (by omega), if_neg (by omega), if_neg (by omega), if_pos ⟨by omega, by omega⟩]; congr 1; omega
    · rw [if_neg e2]
      by_cases e3 : k + 1 < i ∧ i < m + 1
      · rw [if_neg (by omega), if_pos ⟨by omega, by omega⟩, if_neg (by omega), if_pos ⟨by omega, by omega⟩]
      · rw [if_neg (by omega), if_neg (by omega), if_neg (by omega), if_neg (by omega)]
structure Split (xs : List PlM) (a s m e b : Nat) : Prop where
  le : a ≤ s ∧ s ≤ m ∧ m ≤ e ∧ e ≤ b
  low : ∀ i j, a ≤ i → i < s → e ≤ j → j < b → LtP (plN xs i) (plN xs j)
  high : ∀ i j, s ≤ i → i < m → m ≤ j → j < e → LtP (plN xs j) (plN xs i)
section
variable {xs ys : List PlM} {a s m e b : Nat}
theorem Split.rows (h : Split xs a s m e b) (hl : Srt xs a m) (hr : Srt xs m b) (hy : Rot xs ys s m e) :
    Srt ys a s ∧ Srt ys s (s + (e - m)) ∧ Srt ys (s + (e - m)) e ∧ Srt ys e b := by
  have hle := h.le
  refine ⟨fun i j h1 h2 h3 => ?_, fun i j h1 h2 h3 => ?_, fun i j h1 h2 h3 => ?_, fun i j h1 h2 h3 => ?_⟩
  · rw [hy.at_, hy.at_, if_neg (by omega), if_neg (by omega), if_neg (by omega), if_neg (by omega)]
    exact hl i j h1 h2 (by omega)
  · rw [hy.at_, hy.at_, if_pos ⟨by omega, by omega⟩, if_pos ⟨by omega, by omega⟩]
    exact hr _ _ (by omega) (by omega) (by omega)
  · rw [hy.at_, hy.at_, if_neg (by omega), if_pos ⟨by omega, by omega⟩, if_neg (by omega), if_pos ⟨by omega, by omega⟩]
    exact hl _ _ (by omega) (by omega) (by omega)
  · rw [hy.at_, hy.at_, if_neg (by omega), if_neg (by omega), if_neg (by omega), if_neg (by omega)]
    exact hr i j (by omega) h2 h3
theorem Split.befs (h : Split xs a s m e b) (hb : Bef xs a m b) (hy : Rot xs ys s m e) :
    Bef ys a s (s + (e - m)) ∧ Bef ys (s + (e - m)) e b := by
  have hle := h.le
  refine ⟨fun i j h1 h2 h3 h4 => ?_, fun i j h1 h2 h3 h4 => ?_⟩
  · rw [hy.at_, hy.at_, if_neg (by omega), if_neg (by omega), if_pos ⟨by omega, by omega⟩]
    exact hb _ _ (by omega) (by omega) (by omega) (by omega)
  · rw [hy.at_, hy.at_, if_neg (by omega), if_pos ⟨by omega, by omega⟩, if_neg (by omega), if_neg (by omega)]
    exact hb _ _ (by omega) (by omega) (by omega) (by omega)
theorem Split.cross (h : Split xs a s m e b) (hl : Srt xs a m) (hr : Srt xs m b) (hy : Rot xs ys s m e) :
    ∀ i j, a ≤ i → i < s + (e - m) → s + (e - m) ≤ j → j < b → LtP (plN ys i) (plN ys j) := by
  have hle := h.le
  intro i j h1 h2 h3 h4
  rw [hy.at_ i, hy.at_ j]
  by_cases e1 : i < s
  · rw [if_neg (by omega), if_neg (by omega)]
    by_cases e2 : j < e
    · rw [if_neg (by omega), if_pos ⟨by omega, by omega⟩]
      exact hl _ _ h1 (by omega) (by omega)
    · rw [if_neg (by omega), if_neg (by omega)]
      exact h.low i j h1 e1 (by omega) h4
  · rw [if_pos ⟨by omega, by omega⟩]
    by_cases e2 : j < e
    · rw [if_neg (by omega), if_pos ⟨by omega, by omega⟩]
      exact h.high _ _ (by omega) (by omega) (by omega) (by omega)
    · rw [if_neg (by omega), if_neg (by omega)]
      exact hr _ _ (by omega) (by omega) h4
theorem Split.mix (h : Split xs a s m e b) (hy : Rot xs ys s m e) : Mix a b xs ys := (hy.mix (by have := h.le; omega) (by have := h.le; omega)).wide (by have := h.le; omega) (by have := h.le; omega)
theorem Split.end_ {zs us : List PlM} (h : Split xs a s m e b) (hl : Srt xs a m) (hr : Srt xs m b) (hy : Rot xs ys s m e)
    (m1 : Mix a (s + (e - m)) ys zs) (s1 : Srt zs a (s + (e - m))) (m2 : Mix (s + (e - m)) b zs us) (s2 : Srt us (s + (e - m)) b) : Mix a b xs us ∧ Srt us a b := by
  have hle := h.le
  refine ⟨((h.mix hy).trans (m1.wide (Nat.le_refl _) (by omega))).trans (m2.wide (by omega) (Nat.le_refl _)), (s1.out m2 (.inl (Nat.le_refl _))).join s2 fun i j h1 h2 h3 h4 => ?_⟩
  rw [m2.out i (by omega)]
  obtain ⟨p, p1, p2, ep⟩ := m1.to i h1 h2
  obtain ⟨q, q1, q2, eq⟩ := m2.to j h3 h4
  rw [ep, eq, m1.out q (by omega)]
  exact h.cross hl hr hy p q p1 p2 q1 q2
theorem Rot.down_of {xs ys : List PlM} {m b k : Nat} (hb : b = m + 1) (h : Rot xs ys (k + 1) m b) (hk : k + 1 ≤ m) (hm : m < xs.length) : Rot xs (swp ys (k + 1) k) k m b := by
  subst hb
  exact h.down hk hm
theorem Split.one_low (hl : m = a + 1) (he : m ≤ e ∧ e ≤ b) (h1 : ∀ k, m ≤ k → k < e → LtP (plN xs k) (plN xs a)) : Split xs a a m e b :=
  ⟨by omega, fun i j h2 h3 => by omega, fun i j h2 h3 h4 h5 => by
    rw [show i = a by omega]
    exact h1 j h4 h5⟩
theorem Split.one_high (hl : b = m + 1) (hs : a ≤ s ∧ s ≤ m) (h1 : ∀ k, s ≤ k → k < m → LtP (plN xs m) (plN xs k)) : Split xs a s m b b :=
  ⟨by omega, fun i j h2 h3 h4 h5 => by omega, fun i j h2 h3 h4 h5 => by
    rw [show j = m by omega]
    exact h1 i h2 h3⟩
theorem Split.sorted_low (h : Split xs a a m e b) (hl : Srt xs a m) (hr : Srt xs m b) (hy : Rot xs ys a m e) (hm : m = a + 1) (h2 : ∀ k, e ≤ k → k < b → LtP (plN xs a) (plN xs k)) : Srt ys a b := by
  obtain ⟨_, r2, r3, r4⟩ := h.rows hl hr hy
  have hle := h.le
  refine (show Srt ys a (a + (e - m)) from r2).join (r3.join r4 fun i j h3 h4 h5 h6 => ?_) (h.cross hl hr hy)
  rw [hy.at_, hy.at_, if_neg (by omega), if_pos ⟨by omega, by omega⟩, if_neg (by omega), if_neg (by omega), show i - (e - m) = a by omega]
  exact h2 j h5 h6
theorem Split.sorted_high (h : Split xs a s m b b) (hl : Srt xs a m) (hr : Srt xs m b) (hy : Rot xs ys s m b) (hm : b = m + 1) (h2 : ∀ k, a ≤ k → k < s → LtP (plN xs k) (plN xs m)) : Srt ys a b := by
  obtain ⟨r1, r2, r3, _⟩ := h.rows hl hr hy
  have hle := h.le
  refine (r1.join r2 fun i j h3 h4 h5 h6 => ?_).join r3 (h.cross hl hr hy)
  rw [hy.at_, hy.at_, if_neg (by omega), if_neg (by omega), if_pos ⟨by omega, by omega⟩, show j + (m - s) = m by omega]
  exact h2 i h3 h4
theorem Split.found {mid lo hi : Nat} (ham : a < m) (hmb : m < b) (hl : Srt xs a m) (hr : Srt xs m b) (hc : (m ≤ mid ∧ lo = a ∧ hi = m) ∨ (mid < m ∧ lo = mid + m - b ∧ hi = mid)) (hmid : mid = (a + b) / 2) (hs : lo ≤ s ∧ s ≤ hi)
    (h1 : ∀ c, lo ≤ c → c < s → LtP (plN xs c) (plN xs (mid + m - 1 - c))) (h2 : ∀ c, s ≤ c → c < hi → LtP (plN xs (mid + m - 1 - c)) (plN xs c)) : Split xs a s m (mid + m - s) b := by
  refine ⟨by omega, fun i j i1 i2 j1 j2 => ?_, fun i j i1 i2 j1 j2 => ?_⟩
  · have h := h1 (s - 1) (by omega) (by omega)
    have e1 : plN xs i = plN xs (s - 1) ∨ LtP (plN xs i) (plN xs (s - 1)) := by
      by_cases e : i = s - 1
      · exact .inl (by rw [e])
      · exact .inr (hl i _ i1 (by omega) (by omega))
    have e2 : plN xs (mid + m - 1 - (s - 1)) = plN xs j ∨ LtP (plN xs (mid + m - 1 - (s - 1))) (plN xs j) := by
      by_cases e : j = mid + m - 1 - (s - 1)
      · exact .inl (by rw [e])
      · exact .inr (hr _ j (by omega) (by omega) j2)
    rcases e1 with e1 | e1 <;> rcases e2 with e2 | e2
    · rw [e1, ← e2]; exact h
    · rw [e1]; exact h.trans e2
    · rw [← e2]; exact e1.trans h
    · exact (e1.trans h).trans e2
  · have h := h2 s (by omega) (by omega)
    have e1 : plN xs j = plN xs (mid + m - 1 - s) ∨ LtP (plN xs j) (plN xs (mid + m - 1 - s)) := by
      by_cases e : j = mid + m - 1 - s
      · exact .inl (by rw [e])
      · exact .inr (hr j _ (by omega) (by omega) (by omega))
    have e2 : plN xs s = plN xs i ∨ LtP (plN xs s) (plN xs i) := by
      by_cases e : i = s
      · exact .inl (by rw [e])
      · exact .inr (hl s i (by omega) (by omega) i2)
    rcases e1 with e1 | e1 <;> rcases e2 with e2 | e2
    · rw [e1, ← e2]; exact h
    · rw [e1]; exact h.trans e2
    · rw [← e2]; exact e1.trans h
    · exact (e1.trans h).trans e2
end
structure Cuts (C : Nat → Prop) (xs ys : List PlM) : Prop where
  len : ys.length = xs.length
  srt : ∀ i j, i < j → j < xs.length → (∀ c, i < c → c ≤ j → ¬ C c) → LtP (plN ys i) (plN ys j)
  to : ∀ i, i < xs.length → ∃ j, j < xs.length ∧ plN ys i = plN xs j ∧ ∀ c, C c → (c ≤ i ↔ c ≤ j)
  of : ∀ j, j < xs.length → ∃ i, i < xs.length ∧ plN ys i = plN xs j
theorem Cuts.all (xs : List PlM) : Cuts (fun _ => True) xs xs := ⟨rfl, fun _ j h _ hc => absurd trivial (hc j h (Nat.le_refl _)), fun i h => ⟨i, h, rfl, fun _ _ => Iff.rfl⟩, fun j h => ⟨j, h, rfl⟩⟩
theorem Cuts.congr {C D : Nat → Prop} {xs ys : List PlM} (h : Cuts C xs ys) (hc : ∀ c, 0 < c → c < xs.length → (C c ↔ D c)) : Cuts D xs ys :=
  ⟨h.len, fun i j h1 h2 h3 => h.srt i j h1 h2 fun c c1 c2 hC => h3 c c1 c2 ((hc c (by omega) (by omega)).1 hC), fun i hi => by
    obtain ⟨j, hj, e, k⟩ := h.to i hi
    refine ⟨j, hj, e, fun c hD => ?_⟩
    by_cases c0 : 0 < c
    · by_cases c1 : c < xs.length
      · exact k c ((hc c c0 c1).2 hD)
      · omega
    · omega, h.of⟩
theorem Cuts.bef {C : Nat → Prop} {xs ys : List PlM} (h : Cuts C xs ys) (hx : ∀ i j, i < j → j < xs.length → Ahead (plN xs i) (plN xs j)) {c i j : Nat} (hc : C c) (hi : i < c) (hj : c ≤ j) (hn : j < xs.length) : Ahead (plN ys i) (plN ys j) := by
  obtain ⟨p, hp, ep, kp⟩ := h.to i (by omega)
  obtain ⟨q, hq, eq, kq⟩ := h.to j hn
  rw [ep, eq]
  have := kp c hc
  have := kq c hc
  exact hx p q (by omega) hq
theorem Cuts.rows {C : Nat → Prop} {xs ys : List PlM} (h : Cuts C xs ys) {a b : Nat} (hb : b ≤ xs.length) (hc : ∀ c, a < c → c < b → ¬ C c) : Srt ys a b := fun i j h1 h2 h3 => h.srt i j h2 (by omega) fun c c1 c2 => hc c (by omega) (by omega)
theorem Cuts.step {C : Nat → Prop} {xs ys zs : List PlM} (h : Cuts C xs ys) {a b : Nat} (ha : a = 0 ∨ C a) (hb : C b ∨ b = xs.length) (hbn : b ≤ xs.length) (hm : Mix a b ys zs) (hs : Srt zs a b) : Cuts (fun c => C c ∧ ¬ (a < c ∧ c < b)) xs zs := by
  have hz : zs.length = xs.length := hm.len.trans h.len
  refine ⟨hz, fun i j h1 h2 h3 => ?_, fun i hi => ?_, fun j hj => ?_⟩
  · by_cases e1 : a ≤ i ∧ i < b
    · by_cases e2 : j < b
      · exact hs i j e1.1 h1 e2
      · rcases hb with hb | hb
        · exact absurd ⟨hb, by omega⟩ (h3 b (by omega) (by omega))
        · omega
    · by_cases e2 : a ≤ j ∧ j < b
      · rcases ha with ha | ha
        · omega
        · exact absurd ⟨ha, by omega⟩ (h3 a (by omega) (by omega))
      · rw [hm.out i e1, hm.out j e2]
        refine h.srt i j h1 h2 fun c c1 c2 hC => ?_
        by_cases e3 : a < c ∧ c < b
        · rcases ha with ha | ha
          · omega
          · exact h3 a (by omega) (by omega) ⟨ha, by omega⟩
        · exact h3 c c1 c2 ⟨hC, e3⟩
  · by_cases e1 : a ≤ i ∧ i < b
    · obtain ⟨p, p1, p2, ep⟩ := hm.to i e1.1 e1.2
      obtain ⟨q, hq, eq, k⟩ := h.to p (by omega)
      refine ⟨q, hq, ep.trans eq, fun c hc => ?_⟩
      have := k c hc.1
      have := hc.2
      omega
    · obtain ⟨q, hq, eq, k⟩ := h.to i hi
      exact ⟨q, hq, (hm.out i e1).trans eq, fun c hc => k c hc.1⟩
  · obtain ⟨p, hp, ep⟩ := h.of j hj
    by_cases e1 : a ≤ p ∧ p < b
    · obtain ⟨q, q1, q2, eq⟩ := hm.of p e1.1 e1.2
      exact ⟨q, by omega, eq.trans ep⟩
    · exact ⟨p, hp, (hm.out p e1).trans ep⟩
theorem Cuts.sorted {C : Nat → Prop} {xs ys : List PlM} (h : Cuts C xs ys) (hc : ∀ c, 0 < c → c < xs.length → ¬ C c) : Srt ys 0 xs.length := fun i j _ h2 h3 => h.srt i j h2 h3 fun c c1 c2 => hc c (by omega) (by omega)
theorem no_mult {k a c : Nat} (ha : k ∣ a) (hc : k ∣ c) (h1 : a < c) (h2 : c < a + k) : False := by
  obtain ⟨p, rfl⟩ := ha
  obtain ⟨q, rfl⟩ := hc
  have h3 : p < q := Nat.lt_of_mul_lt_mul_left h1
  have h4 : k * q < k * (p + 1) := by rw [Nat.mul_add, Nat.mul_one]; exact h2
  have := Nat.lt_of_mul_lt_mul_left h4
  omega
end Go.Proofs.YtpkkejdjhnmjiaaGreat
namespace Go.Proofs.YtpkkejdjhnmjiaaGreat
open Go.RowKit Bm
def newAt (zs : List PlM) (i : Nat) : Bool := decide (i = 0 ∨ (plN zs i).p.s ≠ (plN zs (i - 1)).p.s)
def news (zs : List PlM) (k : Nat) : List PlM := ((List.range k).filter (newAt zs)).map (plN zs)
theorem news_succ (zs : List PlM) (k : Nat) : news zs (k + 1) = if newAt zs k then news zs k ++ [plN zs k] else news zs k := by
  unfold news
  rw [List.range_succ, List.filter_append, List.map_append]
  by_cases h : newAt zs k
  · rw [if_pos h, List.filter_cons_of_pos h]; rfl
  · rw [if_neg h, List.filter_cons_of_neg h]; simp
theorem news_len (zs : List PlM) (k : Nat) : (news zs k).length ≤ k := by
  unfold news
  rw [List.length_map]
  have := List.length_filter_le (newAt zs) (List.range k)
  rwa [List.length_range] at this
theorem news_mem {zs : List PlM} {k : Nat} {x : PlM} : x ∈ news zs k ↔ ∃ i, i < k ∧ newAt zs i = true ∧ plN zs i = x := by
  unfold news
  rw [List.mem_map]
  constructor
  · rintro ⟨i, hi, e⟩
    obtain ⟨h1, h2⟩ := List.mem_filter.1 hi
    exact ⟨i, List.mem_range.1 h1, h2, e⟩
  · rintro ⟨i, h1, h2, e⟩
    exact ⟨i, List.mem_filter.2 ⟨List.mem_range.2 h1, h2⟩, e⟩
theorem sec_le {zs : List PlM} {n i j : Nat} (h : Srt zs 0 n) (hij : i ≤ j) (hj : j < n) : U (plN zs i).p.s ≤ U (plN zs j).p.s := by
  by_cases e : i = j
  · rw [e]; exact Int.le_refl _
  · have := h i j (Nat.zero_le _) (by omega) hj
    unfold LtP at this
    omega
theorem news_rises {zs : List PlM} {n : Nat} (h : Srt zs 0 n) : Rises (news zs n) := by
  unfold news Rises
  rw [List.pairwise_map]
  refine List.Pairwise.imp_of_mem ?_ (List.Pairwise.filter _ List.pairwise_lt_range)
  intro i j hi hj hlt
  obtain ⟨h1, h2⟩ := List.mem_filter.1 hj
  have hjn := List.mem_range.1 h1
  unfold newAt at h2
  have h3 := of_decide_eq_true h2
  have h4 : (plN zs j).p.s ≠ (plN zs (j - 1)).p.s := by
    rcases h3 with h3 | h3
    · omega
    · exact h3
  have h5 := sec_le h (show i ≤ j - 1 by omega) (by omega)
  have h6 := sec_le h (show j - 1 ≤ j by omega) hjn
  have h7 : U (plN zs j).p.s ≠ U (plN zs (j - 1)).p.s := fun e => h4 (U_inj e)
  omega
theorem best_first : ∀ (all : List PlM), all.Pairwise Ahead → ∀ {s : BitVec 32} {z : PlM}, best all s = some z → z ∈ all ∧ z.p.s = s ∧ ∀ y ∈ all, y.p.s = s → y = z ∨ LtP z y := by
  refine list_snoc (P := fun all => all.Pairwise Ahead → ∀ {s : BitVec 32} {z : PlM}, best all s = some z → z ∈ all ∧ z.p.s = s ∧ ∀ y ∈ all, y.p.s = s → y = z ∨ LtP z y) (fun _ s z h => by cases h) fun l x ih ha s z h => ?_
  obtain ⟨ha1, _, ha2⟩ := List.pairwise_append.1 ha
  have ih := @ih ha1 s
  rw [best_snoc] at h
  unfold bestS at h
  by_cases hs : x.p.s = s
  · rw [if_pos hs] at h
    cases hb : best l s with
    | none =>
      rw [hb] at h
      simp only [Option.some.injEq] at h
      subst h
      refine ⟨by simp, hs, fun y hy he => ?_⟩
      rcases List.mem_append.1 hy with hy | hy
      · exact absurd he ((best_none l s).1 hb y hy)
      · exact .inl (by simpa using hy)
    | some o =>
      rw [hb] at h
      obtain ⟨i1, i2, i3⟩ := ih hb
      simp only at h
      split at h
      · rename_i hlt
        simp only [Option.some.injEq] at h
        subst h
        have hxo : LtP x o := .inr ⟨by rw [hs, i2], .inl hlt⟩
        refine ⟨by simp, hs, fun y hy he => ?_⟩
        rcases List.mem_append.1 hy with hy | hy
        · rcases i3 y hy he with e | e
          · subst e; exact .inr hxo
          · exact .inr (hxo.trans e)
        · exact .inl (by simpa using hy)
      · rename_i hlt
        simp only [Option.some.injEq] at h
        subst h
        refine ⟨by simp [i1], i2, fun y hy he => ?_⟩
        rcases List.mem_append.1 hy with hy | hy
        · exact i3 y hy he
        · have e : y = x := by simpa using hy
          subst e
          refine .inr (.inr ⟨by rw [i2, hs], ?_⟩)
          by_cases hq : U y.p.q < U o.p.q
          · exact .inl hq
          · exact .inr ⟨by omega, ha2 o i1 y (by simp)⟩
  · rw [if_neg hs] at h
    obtain ⟨i1, i2, i3⟩ := ih h
    refine ⟨by simp [i1], i2, fun y hy he => ?_⟩
    rcases List.mem_append.1 hy with hy | hy
    · exact i3 y hy he
    · have e : y = x := by simpa using hy
      rw [e] at he
      exact absurd he hs
theorem least {p : Nat → Prop} : ∀ {i : Nat}, p i → ∃ j, j ≤ i ∧ p j ∧ ∀ k, k < j → ¬ p k
  | 0, h => ⟨0, Nat.le_refl _, h, fun k hk => by omega⟩
  | i + 1, h => by
    by_cases e : ∃ k, k ≤ i ∧ p k
    · obtain ⟨k, hk, hp⟩ := e
      obtain ⟨j, h1, h2, h3⟩ := least_of hp
      exact ⟨j, by omega, h2, h3⟩
    · exact ⟨i + 1, Nat.le_refl _, h, fun k hk hp => e ⟨k, by omega, hp⟩⟩
where
  least_of {p : Nat → Prop} {k : Nat} (hp : p k) : ∃ j, j ≤ k ∧ p j ∧ ∀ k, k < j → ¬ p k := by
    induction k using Nat.strongRecOn with
    | ind k ih =>
      by_cases e : ∃ l, l < k ∧ p l
      · obtain ⟨l, hl, hq⟩ := e
        obtain ⟨j, h1, h2, h3⟩ := ih l hl hq
        exact ⟨j, by omega, h2, h3⟩
      · exact ⟨k, Nat.le_refl _, hp, fun l hl hq => e ⟨l, hl, hq⟩⟩
theorem news_is {zs all : List PlM} {n : Nat} (h : Srt zs 0 n) (h1 : ∀ i, i < n → plN zs i ∈ all) (h2 : ∀ x ∈ all, ∃ i, i < n ∧ plN zs i = x) (ha : all.Pairwise Ahead) : news zs n = lOf all := by
  refine of_is (news_rises h) fun s => ?_
  cases hb : best all s with
  | none =>
    have hn := (best_none all s).1 hb
    unfold lFind
    rw [List.find?_eq_none]
    intro x hx
    obtain ⟨i, hi, _, e⟩ := news_mem.1 hx
    have := hn x (e ▸ h1 i hi)
    simpa using this
  | some z =>
    obtain ⟨hz, hzs, hzl⟩ := best_first all ha hb
    obtain ⟨i, hi, ei⟩ := h2 z hz
    obtain ⟨j, hji, hjs, hjl⟩ := least (p := fun j => (plN zs j).p.s = s) (i := i) (by rw [ei]; exact hzs)
    have hkeep : newAt zs j = true := by
      unfold newAt
      refine decide_eq_true ?_
      by_cases e : j = 0
      · exact .inl e
      · exact .inr fun e2 => hjl (j - 1) (by omega) (e2.symm.trans hjs)
    have hm : plN zs j ∈ news zs n := news_mem.2 ⟨j, by omega, hkeep, rfl⟩
    have hf := rises_find (news_rises h) hm
    rw [hjs] at hf
    rw [hf]
    congr 1
    rcases hzl _ (h1 j (by omega)) hjs with e | e
    · exact e
    · by_cases e2 : j = i
      · rw [e2]; exact ei
      · have := h j i (Nat.zero_le _) (by omega) hi
        rw [ei] at this
        exact (e.asymm this).elim
theorem pair_at {all : List PlM} (ha : all.Pairwise Ahead) {i j : Nat} (h : i < j) (hj : j < all.length) : Ahead (plN all i) (plN all j) := by
  have := List.pairwise_iff_getElem.1 ha i j (by omega) hj h
  unfold plN
  rw [List.getD_eq_getElem?_getD, List.getD_eq_getElem?_getD, List.getElem?_eq_getElem (by omega), List.getElem?_eq_getElem hj]
  exact this
theorem plN_mem {all : List PlM} {i : Nat} (h : i < all.length) : plN all i ∈ all := List.mem_of_getElem? (plN_get h)
theorem mem_plN {all : List PlM} {x : PlM} (h : x ∈ all) : ∃ i, i < all.length ∧ plN all i = x := by
  obtain ⟨i, hi, e⟩ := List.getElem_of_mem h
  refine ⟨i, hi, ?_⟩
  unfold plN
  rw [List.getD_eq_getElem?_getD, List.getElem?_eq_getElem hi]
  exact e
theorem news_of {all zs : List PlM} (ha : all.Pairwise Ahead) (hl : zs.length = all.length) (hs : Srt zs 0 all.length) (h1 : ∀ i, i < all.length → ∃ j, j < all.length ∧ plN zs i = plN all j) (h2 : ∀ j, j < all.length → ∃ i, i < all.length ∧ plN zs i = plN all j) : news zs zs.length = lOf all := by
  rw [hl]
  refine news_is hs (fun i hi => ?_) (fun x hx => ?_) ha
  · obtain ⟨j, hj, e⟩ := h1 i hi
    rw [e]; exact plN_mem hj
  · obtain ⟨j, hj, rfl⟩ := mem_plN hx
    exact h2 j hj
structure NewAt (zs ys : List PlM) (p : Nat) : Prop where
  len : ys.length = zs.length
  le : (news zs p).length < p
  new : ∀ i, i < (news zs p).length → plN ys i = plN (news zs p) i
  old : ∀ i, p ≤ i + 1 → plN ys i = plN zs i
theorem plN_append (xs : List PlM) (x : PlM) (i : Nat) (h : i < xs.length) : plN (xs ++ [x]) i = plN xs i := by
  unfold plN
  rw [List.getD_eq_getElem?_getD, List.getD_eq_getElem?_getD, List.getElem?_append_left h]
theorem plN_last (xs : List PlM) (x : PlM) : plN (xs ++ [x]) xs.length = x := by
  unfold plN
  simp
theorem news_all {zs : List PlM} : ∀ {k : Nat}, k ≤ zs.length → (∀ i, i < k → newAt zs i = true) → news zs k = zs.take k
  | 0, _, _ => by simp [news]
  | k + 1, h, ha => by
    rw [news_succ, if_pos (ha k (by omega)), news_all (by omega) (fun i hi => ha i (by omega)), List.take_add_one, plN_get (by omega)]
    rfl
theorem NewAt.start {zs : List PlM} {k : Nat} (hk : k < zs.length) (ha : ∀ i, i < k → newAt zs i = true) (hn : newAt zs k = false) : NewAt zs zs (k + 1) ∧ (news zs (k + 1)).length = k := by
  have e : news zs (k + 1) = zs.take k := by rw [news_succ, if_neg (by rw [hn]; simp), news_all (by omega) ha]
  have el : (news zs (k + 1)).length = k := by rw [e, List.length_take]; omega
  refine ⟨⟨rfl, by omega, fun i hi => ?_, fun _ _ => rfl⟩, el⟩
  rw [e]
  unfold plN
  rw [List.getD_eq_getElem?_getD, List.getD_eq_getElem?_getD, List.getElem?_take, if_pos (by omega)]
theorem NewAt.skip {zs ys : List PlM} {p : Nat} (h : NewAt zs ys p) (hn : newAt zs p = false) : NewAt zs ys (p + 1) ∧ news zs (p + 1) = news zs p := by
  have e : news zs (p + 1) = news zs p := by rw [news_succ, if_neg (by rw [hn]; simp)]
  exact ⟨⟨h.len, by rw [e]; have := h.le; omega, by rw [e]; exact h.new, fun i hi => h.old i (by omega)⟩, e⟩
theorem NewAt.take {zs ys : List PlM} {p : Nat} (h : NewAt zs ys p) (hp : p < zs.length) (hn : newAt zs p = true) : NewAt zs (ys.set (news zs p).length (plN zs p)) (p + 1) ∧ (news zs (p + 1)).length = (news zs p).length + 1 := by
  have e : news zs (p + 1) = news zs p ++ [plN zs p] := by rw [news_succ, if_pos hn]
  have el : (news zs (p + 1)).length = (news zs p).length + 1 := by rw [e]; simp
  have hle := h.le
  have hly := h.len
  refine ⟨⟨by rw [List.length_set]; exact h.len, by omega, fun i hi => ?_, fun i hi => ?_⟩, el⟩
  · rw [plN_set _ _ _ _ (by omega)]
    by_cases ei : i = (news zs p).length
    · rw [if_pos ei, e, ei, plN_last]
    · rw [if_neg ei, e, plN_append _ _ _ (by omega)]
      exact h.new i (by omega)
  · rw [plN_set _ _ _ _ (by omega), if_neg (by omega)]
    exact h.old i (by omega)
theorem NewAt.end_ {zs ys : List PlM} (h : NewAt zs ys zs.length) : ys.take (news zs zs.length).length = news zs zs.length := by
  have := news_len zs zs.length
  have hl := h.len
  apply List.ext_getElem
  · rw [List.length_take]; omega
  · intro i h1 h2
    have := h.new i h2
    unfold plN at this
    rw [List.getD_eq_getElem?_getD, List.getD_eq_getElem?_getD, List.getElem?_eq_getElem (by omega), List.getElem?_eq_getElem h2] at this
    rw [List.getElem_take]
    exact this
end Go.Proofs.YtpkkejdjhnmjiaaGreat
