/- Contracts of the program's scan.Next, Empty, Counts. -/
import Derived.Test.YtfpfcmgcfbkolaaScanIter
import Derived.Test.YtfpfcmgcfbkolaaScanFacts
import Derived.Test.YtfpfcmgcfbkolaaScanRows
namespace Go.Proofs.Ytfpfcmgcfbkolaa
open Go.RowKit Bm Go.Shelf

attribute [local go_sem] Oper.semAt_some bk_head bk_count

theorem bk_get2 {b : BlkM} (h : BlkOk b) (i : Nat) (hi : i < 8) : (bkC b)[2 + i]? = some (.int .i64 (nm b.kinds i)) := bk_kind h i hi

/-- The least place that was gone through; -1: none was. -/
def lastOf (pre : List Nat) : Int := match pre.getLast? with | some x => (x : Int) | none => -1
theorem lastOf_snoc (pre : List Nat) (x : Nat) : lastOf (pre ++ [x]) = (x : Int) := by simp [lastOf]

theorem last_downs (k : Nat) : lastOf (downs (k + 1)) = ((7 - k : Nat) : Int) := by rw [downs_succ, lastOf_snoc]
theorem mem_downs (k i : Nat) (h : 8 - k ≤ i) (h' : i < 8) : i ∈ downs k := List.mem_map.2 ⟨7 - i, by rw [List.mem_range]; omega, by omega⟩
/-- Where the walk from the end on came to a page that is not free, or to the first one. -/
theorem next_downs {b : BlkM} (h1 : b.head = 1) (k : Nat) (hk : k ≤ 8) (hz : ∀ x ∈ downs k, nm b.kinds x = 0) (hn : k < 8 → nm b.kinds (7 - k) ≠ 0) : bkNext b = lastOf (downs k) := by
  have e : freeFrom b.kinds 8 = 8 - k := free_is b.kinds 8 (8 - k) (by omega) (fun i a c => hz i (mem_downs k i a c)) (fun h => by rw [show 8 - k - 1 = 7 - k by omega]; exact hn (by omega))
  unfold bkNext
  rw [if_pos h1, e]
  cases k with
  | zero => rfl
  | succ k =>
    rw [if_neg (by omega), last_downs k]
    omega


theorem bk_size : (Try.prog.info? 60).map (·.size) = some 66 := by kernel_rfl


theorem bk_info : (Try.prog.info? 60).map (fun i => (i.zero, i.size)) = some (some (.agg (bkC bk0).toArray), 66) := by kernel_rfl
theorem bk_zero (w : World) : (zeroValue 60).run Try.prog w = .ok (.agg (bkC bk0).toArray) w := (zero_of_info bk_info).1 w

end Go.Proofs.Ytfpfcmgcfbkolaa
