/- Words of which just some bits are there, as plain functions (layer page). -/
import Derived.Test.YtkjgbjcdpifamaaPageWalk5
namespace Go.Proofs.Ytkjgbjcdpifamaa
open Go.RowKit Bm

/-- Of the words ahead of t just the bits that are picked are there. -/
def mixW (l ks : List (BitVec 32)) (t : Nat) : List (BitVec 32) := (List.range l.length).map fun i => if i < t then partB 4294967295#32 (wd l i) (wd ks i) else wd l i
def flW (l ks : List (BitVec 32)) (t : Nat) : Bool := (List.range t).all fun i => partB 4294967295#32 (wd l i) (wd ks i) == 4294967295#32

theorem mixW_len (l ks : List (BitVec 32)) (t : Nat) : (mixW l ks t).length = l.length := by simp [mixW]
theorem mixW_zero (l ks : List (BitVec 32)) : mixW l ks 0 = l := by
  refine ext_wd (mixW_len _ _ _) fun i hi => ?_
  rw [mixW_len] at hi
  unfold mixW wd
  simp [hi]
theorem wd_mixW (l ks : List (BitVec 32)) (t i : Nat) (h : i < l.length) : wd (mixW l ks t) i = if i < t then partB 4294967295#32 (wd l i) (wd ks i) else wd l i := by
  have e : wd (mixW l ks t) i = (mixW l ks t)[i]?.getD 0#32 := by unfold wd; rw [List.getD_eq_getElem?_getD]
  rw [e]
  unfold mixW
  rw [List.getElem?_map, List.getElem?_range h]
  rfl
theorem mixW_set (l ks : List (BitVec 32)) (t : Nat) (h : t < l.length) : (mixW l ks t).set t (partB 4294967295#32 (wd l t) (wd ks t)) = mixW l ks (t + 1) := by
  refine ext_wd (by rw [List.length_set, mixW_len, mixW_len]) fun i hi => ?_
  rw [List.length_set, mixW_len] at hi
  rw [wd_mixW l ks (t + 1) i hi]
  by_cases e : t = i
  · subst e
    rw [if_pos (by omega)]
    unfold wd
    rw [List.getD_eq_getElem?_getD, List.getElem?_set_self (by rw [mixW_len]; exact h)]
    rfl
  · have : wd ((mixW l ks t).set t (partB 4294967295#32 (wd l t) (wd ks t))) i = wd (mixW l ks t) i := by
      have e1 : ∀ vs : List (BitVec 32), wd vs i = vs[i]?.getD 0#32 := fun vs => by unfold wd; rw [List.getD_eq_getElem?_getD]
      rw [e1, e1, List.getElem?_set_ne e]
    rw [this, wd_mixW l ks t i hi]
    by_cases h1 : i < t
    · rw [if_pos h1, if_pos (by omega)]
    · rw [if_neg h1, if_neg (by omega)]
theorem flW_succ (l ks : List (BitVec 32)) (t : Nat) : flW l ks (t + 1) = (flW l ks t && (partB 4294967295#32 (wd l t) (wd ks t) == 4294967295#32)) := by
  unfold flW
  rw [List.range_succ, List.all_append]
  simp
theorem flW_all (l ks : List (BitVec 32)) : flW l ks l.length = freeB (mixW l ks l.length) := by
  cases h : flW l ks l.length
  · unfold flW at h
    rw [List.all_eq_false] at h
    obtain ⟨i, hi, hne⟩ := h
    have hi' : i < l.length := by simpa using hi
    symm
    refine freeB_no (i := i) (by rw [mixW_len]; exact hi') ?_
    rw [wd_mixW l ks _ i hi', if_pos hi']
    simpa using hne
  · unfold flW at h
    rw [List.all_eq_true] at h
    symm
    refine freeB_yes fun i hi => ?_
    rw [mixW_len] at hi
    rw [wd_mixW l ks _ i hi, if_pos hi]
    have := h i (by simpa using hi)
    simpa using this

/-- With another last word they are no page. -/
theorem pgRd_torn7 {vs : List (BitVec 32)} (hl : vs.length = 7) (h : wd vs 6 ≠ 1526644958#32) : pgRd vs = (pg0, if freeB vs then 0 else 2) := by
  cases hf : freeB vs
  · rw [pgRd_torn hl hf]
    · rfl
    · intro e
      apply h
      rw [← e]
      cases ho : pgOk (pgOf vs)
      · rw [pgWs_no ho] at e
        rw [← e] at hl
        simp at hl
      · rw [pgWs_yes ho]
        rfl
  · rw [pgRd_free hl hf]
    rfl
theorem hdRd_torn4 {vs : List (BitVec 32)} (hl : vs.length = 4) (h : wd vs 3 ≠ 1526644958#32) : hdRd vs = (0#32, if freeB vs then 0 else 2) := by
  cases hf : freeB vs
  · rw [hdRd_torn hl hf]
    · rfl
    · intro e
      apply h
      rw [← e]
      by_cases hx : U (wd vs 1) ≤ 2147483648
      · rw [hdWs_yes hx]
        rfl
      · rw [hdWs_no hx] at e
        rw [← e] at hl
        simp at hl
  · rw [hdRd_free hl hf]
    rfl

/-- A slice of its own. -/
structure Own (w : World) (A : Option Addr) (n c g : Nat) (l : List (BitVec 32)) : Prop where
  len : l.length = n
  own : 0 < n → A = some ⟨g, 0, none⟩ ∧ ∃ rest, At w g 22 (Us l ++ rest) ∧ (Us l ++ rest).length = c ∧ c ≤ maxLen
theorem OutW.own {w w' : World} {xs : List (BitVec 32)} {e : Ending} (h : OutW w xs e w') : ∃ A c g, e = .returned (.slice A xs.length c) ∧ Own w' A xs.length c g xs ∧ (0 < xs.length → w.heap.size ≤ g ∧ g < w'.heap.size) ∧ Below w.heap.size w w' := by
  obtain ⟨A, c, rfl, hr, ho, hb⟩ := h
  by_cases h0 : 0 < xs.length
  · obtain ⟨g, rest, rfl, hA, hc, hg⟩ := ho h0
    exact ⟨_, c, g, rfl, ⟨rfl, fun _ => ⟨rfl, rest, hA, hc, hr.max⟩⟩, fun _ => ⟨hg, hA.lt⟩, hb⟩
  · exact ⟨A, c, 0, rfl, ⟨rfl, fun h => absurd h h0⟩, fun h => absurd h h0, hb⟩
theorem Own.on {w w' : World} {A : Option Addr} {n c g : Nat} {l : List (BitVec 32)} (h : Own w A n c g l) (hb : Below w.heap.size w w') : Own w' A n c g l :=
  ⟨h.len, fun h0 => by
    obtain ⟨e, rest, hA, hc, hm⟩ := h.own h0
    exact ⟨e, rest, hA.on hb, hc, hm⟩⟩
theorem Own.other {w w' : World} {A : Option Addr} {n c g b : Nat} {l : List (BitVec 32)} (h : Own w A n c g l) (t : Turned (fun i => i = b) w w') (hne : 0 < n → g ≠ b) : Own w' A n c g l :=
  ⟨h.len, fun h0 => by
    obtain ⟨e, rest, hA, hc, hm⟩ := h.own h0
    exact ⟨e, rest, hA.kept t (hne h0), hc, hm⟩⟩
theorem Own.drew {w : World} {A : Option Addr} {n c g : Nat} {l : List (BitVec 32)} (h : Own w A n c g l) : Own w.drew A n c g l :=
  ⟨h.len, fun h0 => by
    obtain ⟨e, rest, hA, hc, hm⟩ := h.own h0
    exact ⟨e, rest, hA.drew, hc, hm⟩⟩
end Go.Proofs.Ytkjgbjcdpifamaa
