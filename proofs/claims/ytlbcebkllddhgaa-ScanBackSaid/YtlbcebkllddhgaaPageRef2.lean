/- Contracts of the document's own answers for layer page: two rows of words compared; free; heads; places. -/
import Derived.Test.YtlbcebkllddhgaaPageRef
import Derived.Test.YtlbcebkllddhgaaWordsEq
import Derived.BigRegion
namespace Go.Proofs.Ytlbcebkllddhgaa
open Go.RowKit Bm

theorem freeB_yes {xs : List (BitVec 32)} (h : ∀ i, i < xs.length → wd xs i = 4294967295#32) : freeB xs = true := by
  unfold freeB
  rw [List.all_eq_true]
  intro x hx
  obtain ⟨i, hi, rfl⟩ := List.getElem_of_mem hx
  have := h i hi
  unfold wd at this
  rw [List.getD_eq_getElem?_getD, List.getElem?_eq_getElem hi] at this
  simpa using this
theorem freeB_no {xs : List (BitVec 32)} {i : Nat} (hi : i < xs.length) (h : wd xs i ≠ 4294967295#32) : freeB xs = false := by
  unfold freeB
  rw [List.all_eq_false]
  refine ⟨xs[i], List.getElem_mem hi, ?_⟩
  unfold wd at h
  rw [List.getD_eq_getElem?_getD, List.getElem?_eq_getElem hi] at h
  simpa using h

set_option maxRecDepth 100000 in
theorem rfree_any (A : Option Addr) (n c : Nat) (xs : List (BitVec 32)) (w : World) (hA : ReadsU w A n c xs) (hn : n ≤ 1000000) :
    Calls Try.prog 42 #[.slice A n c] w fun e w' => e = .returned (.bool (freeB xs)) ∧ w' = w := by
  have hAl := hA.le
  go_enter Try.func42, Try.ntmps42
  go_wp2
  go_loop [3] (fun i => ∃ j : Nat, j ≤ n ∧ i = .int .i64 j ∧ ∀ i, i < j → wd xs i = 4294967295#32) (fun i => n - (intOf i).toNat)
  case atStart => exact ⟨0, by omega, rfl, fun i h => absurd h (by omega)⟩
  case round =>
    obtain ⟨j, hj, rfl, hs⟩ := hrel
    have HS := Lib.hid hs
    clear hs
    by_cases hlt : j < n
    · obtain ⟨a, rfl, ha⟩ := hA.at_ hlt
      have i0 : (0 : Int) ≤ (j : Int) := by omega
      have i1 : (j : Int) < (n : Int) := by omega
      by_cases hv : wd xs j = 4294967295#32
      · have HV := Lib.hid hv
        rw [hv] at ha
        clear hv
        go_wp2
        go_round
        case rel => exact ⟨j + 1, by omega, by go_num, fun i hi => by
          by_cases e : i = j
          · rw [e]; exact HV.out
          · exact HS.out i (by omega)⟩
        case measure => simp [intOf]; omega
      · have e := Lib.hid (freeB_no (by rw [hA.len]; exact hlt) hv)
        have hu : ¬ U (wd xs j) = 4294967295 := by rw [show (4294967295 : Int) = U 4294967295#32 from rfl, U_eq_iff]; exact hv
        clear hv
        go_wp2
        go_ret
        rw [e.out]
        exact ⟨rfl, rfl⟩
    · obtain rfl : j = n := by omega
      go_wp2
      go_ret
      rw [freeB_yes (fun i hi => HS.out i (by rw [← hA.len]; exact hi))]
      exact ⟨rfl, rfl⟩

set_option maxRecDepth 100000 in
theorem rheader_any (x : BitVec 32) (w : World) : Calls Try.prog 27 #[.int .u32 (U x)] w (OutW w (hdWs x)) := by
  have x0 := U_nonneg x
  by_cases h : U x ≤ 2147483648
  · rw [hdWs_yes h]
    have e : 4294967295 - U x = U (~~~x) := by
      unfold U
      rw [BitVec.toNat_not]
      have := x.isLt
      omega
    have E := Lib.hid e
    clear e
    go_enter Try.func27, Try.ntmps27
    go_wp2
    go_ret
    refine outW_new (xs := [2970353665#32, x, ~~~x, 1526644958#32]) rfl ?_ (by unfold maxLen; simp) (Nat.le_refl _) ((Below.refl _ w).alloc (Nat.le_refl _) _)
    simp only [Us, List.map, ← E.out]
    exact At.news _ _ _
  · rw [hdWs_no h]
    go_enter Try.func27, Try.ntmps27
    go_wp2
    go_ret
    exact outW_nil (Below.refl _ w)

end Go.Proofs.Ytlbcebkllddhgaa
