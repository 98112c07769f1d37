/- Contracts of the document's own answers for layer page: two rows of words compared; free; heads; places. -/
import Derived.Test.YtfpfcmgcfbkolaaPageRef
import Derived.Test.YtfpfcmgcfbkolaaWordsEq
import Derived.BigRegion
namespace Go.Proofs.Ytfpfcmgcfbkolaa
open Go.RowKit Bm

theorem freeB_yes {xs : List (BitVec 32)} (h : ∀ i, i < xs.length → wd xs i = 4294967295#32) : freeB xs = true := by
  unfold freeB
  rw [List.all_eq_true]
  intro x hx
  obtain ⟨i, hi, rfl⟩ := List.getElem_of_mem hx
  have := h i hi
  unfold wd at this
  rw [List.getD_eq_getElem?_getD, List.getElem?_eq_getElem hi] at this
  simpa using this
theorem freeB_no {xs : List (BitVec 32)} {i : Nat} (hi : i < xs.length) (h : wd xs i ≠ 4294967295#32) : freeB xs = false := by
  unfold freeB
  rw [List.all_eq_false]
  refine ⟨xs[i], List.getElem_mem hi, ?_⟩
  unfold wd at h
  rw [List.getD_eq_getElem?_getD, List.getElem?_eq_getElem hi] at h
  simpa using h


set_option maxRecDepth 100000 in
theorem rheader_any (x : BitVec 32) (w : World) : Calls Try.prog 32 #[.int .u32 (U x)] w (OutW w (hdWs x)) := by
  have x0 := U_nonneg x
  by_cases h : U x ≤ 2147483648
  · rw [hdWs_yes h]
    have e : 4294967295 - U x = U (~~~x) := by
      unfold U
      rw [BitVec.toNat_not]
      have := x.isLt
      omega
    have E := Lib.hid e
    clear e
    go_enter Try.func32, Try.ntmps32
    go_wp2
    go_ret
    refine outW_new (xs := [2970353665#32, x, ~~~x, 1526644958#32]) rfl ?_ (by unfold maxLen; simp) (Nat.le_refl _) ((Below.refl _ w).alloc (Nat.le_refl _) _)
    simp only [Us, List.map, ← E.out]
    exact At.news _ _ _
  · rw [hdWs_no h]
    go_enter Try.func32, Try.ntmps32
    go_wp2
    go_ret
    exact outW_nil (Below.refl _ w)

end Go.Proofs.Ytfpfcmgcfbkolaa
