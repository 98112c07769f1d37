/- Facts about the blocks that ScanBack's function finds in what it built. -/
import Derived.Test.YtlbcebkllddhgaaScanBuilt
import Derived.Test.YtlbcebkllddhgaaScan3
namespace Go.Proofs.Ytlbcebkllddhgaa
open Go.RowKit Bm

/-- One past the last page of these that is written, among the first t places. -/
def lastK (l : List PageM) : Nat → Nat
  | 0 => 0
  | t + 1 => if pgIs l t then t + 1 else lastK l t
def blkF (l : List PageM) (i : Nat) : BlkM := ⟨1, BitVec.ofNat 32 i, (List.range 8).map (fun k => if pgIs l k then 1 else 0), (List.range 8).map (fun k => if pgIs l k then pgN l k else pg0)⟩
theorem blkF_ok (l : List PageM) (i : Nat) : BlkOk (blkF l i) := ⟨by simp [blkF], by simp [blkF]⟩
theorem blkF_kind (l : List PageM) (i k : Nat) (h : k < 8) : nm (blkF l i).kinds k = if pgIs l k then 1 else 0 := by
  unfold nm blkF
  rw [List.getD_eq_getElem?_getD, List.getElem?_map, List.getElem?_range h]
  rfl
theorem blkF_page (l : List PageM) (i k : Nat) (h : k < 8) : pgN (blkF l i).pages k = if pgIs l k then pgN l k else pg0 := by
  unfold blkF
  conv => lhs; unfold pgN
  rw [List.getD_eq_getElem?_getD, List.getElem?_map, List.getElem?_range h]
  rfl
theorem lastK_le (l : List PageM) : ∀ t, lastK l t ≤ t
  | 0 => Nat.le_refl _
  | t + 1 => by
    unfold lastK
    have := lastK_le l t
    split <;> omega
theorem blkF_free (l : List PageM) (i : Nat) : ∀ t, t ≤ 8 → freeFrom (blkF l i).kinds t = lastK l t
  | 0, _ => rfl
  | t + 1, h => by
    unfold freeFrom lastK
    rw [blkF_kind l i t (by omega), blkF_free l i t (by omega)]
    cases pgIs l t <;> simp
theorem blkF_next (l : List PageM) (i : Nat) : bkNext (blkF l i) = if lastK l 8 = 8 then -1 else (lastK l 8 : Int) := by
  unfold bkNext
  rw [blkF_free l i 8 (by omega)]
  rfl
theorem found_blk (ll : List (List PageM)) (h : ll.length ≤ 8) : found (bltPre ll ll.length) (List.range ll.length) = (List.range ll.length).map fun i => blkF (ll.getD i []) i := by
  unfold found
  apply List.map_congr_left
  intro i hi
  have hi' : i < ll.length := by simpa using hi
  exact (congrArg bkOf (bltW_chunk ll h i hi')).trans (blk_found (by omega) _)
theorem found_pos (ll : List (List PageM)) (n i : Nat) (h : i < n) : bkN ((List.range n).map fun i => blkF (ll.getD i []) i) i = blkF (ll.getD i []) i := by
  unfold bkN
  rw [List.getD_eq_getElem?_getD, List.getElem?_map, List.getElem?_range h]
  rfl
theorem counts_back (ll : List (List PageM)) : ∀ n, n ≤ 8 → bkCounts ((List.range (n + 1)).map fun i => blkF (ll.getD i []) i) = BitVec.ofNat 32 n
  | 0, _ => by simp [bkCounts, bkMax, blkF]
  | n + 1, h => by
    have ih := counts_back ll n (by omega)
    unfold bkCounts at ih ⊢
    rw [List.range_succ, List.map_append, List.foldl_append, ih]
    show bkMax (BitVec.ofNat 32 n) (blkF _ (n + 1)) = _
    unfold bkMax
    rw [if_pos]
    · rfl
    · refine ⟨rfl, ?_⟩
      show U (BitVec.ofNat 32 n) < U (BitVec.ofNat 32 (n + 1))
      rw [U_ofNat n (by omega), U_ofNat (n + 1) (by omega)]
      omega
theorem scOf_built (ll : List (List PageM)) (n : Nat) (hl : ll.length = n) (h1 : 1 ≤ n) (h8 : n ≤ 8) : scOf (bltPre ll n) = ((List.range n).map (fun i => blkF (ll.getD i []) i), 0) := by
  subst hl
  rw [scOf_good (bltPre_len ll _ (by omega)) h1 (by omega)]
  exact congrArg (·, (0 : Int)) (found_blk ll h8)
end Go.Proofs.Ytlbcebkllddhgaa
