/- The statements' list of registers (layer csr). -/
import Derived.Test.YtedpeojgpnnddaaCsrV
import Derived.Test.YtedpeojgpnnddaaCsrE
namespace Go.Proofs.Ytedpeojgpnnddaa
open Go.RowKit Bm

namespace Bm
theorem all_len : allL.length = 26 := rfl
theorem all_nth (k : Nat) (h : k < 26) : nm allL k ∈ allL := by
  unfold nm
  rw [List.getD_eq_getElem?_getD, List.getElem?_eq_getElem (by rw [all_len]; exact h)]
  exact List.getElem_mem _
theorem all_at (k : Nat) (h : k < 26) : (Is allL)[k]? = some (.int .i64 (nm allL k)) := Is_get allL k (by rw [all_len]; exact h)
theorem all_low : ∀ n ∈ allL, rdIs n 3 = true := by decide
theorem wr_low {n : Int} (h : n ∈ allL) : wrIs n 3 = !decide (n / 1024 % 4 = 3) := by unfold wrIs; rw [all_low n h]; rfl
end Bm
theorem numbers13_any (w : World) : Calls Try.prog 17 #[] w fun e w' => ∃ g, e = .returned (.slice (some ⟨g, 0, none⟩) 26 26) ∧ At w' g 3 (Is allL) ∧ Below w.heap.size w w' ∧ w.heap.size ≤ g := by
  have hA := Lib.hid (At.news w 3 (Is allL))
  have hB := Lib.hid ((Below.refl w.heap.size w).alloc (Nat.le_refl _) (.cells (Is allL).toArray 3))
  go_enter Try.func17, Try.ntmps17
  go_wp2
  go_ret
  exact ⟨_, rfl, hA.out, hB.out, Nat.le_refl _⟩
end Go.Proofs.Ytedpeojgpnnddaa
