import Derived.Test.YtnfgpjfldgocaaaGreatLatTools
namespace Go.Proofs.YtnfgpjfldgocaaaGreat
section
open Go.RowKit Bm
end
section
open Go.RowKit Bm
end
section
open Go.RowKit Bm
end
section
open Go.RowKit Bm
theorem cnt_len (bs : List BlkM) : (cnt bs).length <= 8 * bs.length := cntU_len bs _
end
section
open Go.RowKit Bm
end
section
open Go.RowKit Bm
theorem pl_dec (a b : PlM) : (a.b == b.b && (a.i == b.i && decide (a.p = b.p))) = decide (a = b) := by
 obtain ⟨h, c, k⟩ := a
 obtain ⟨h', c', k'⟩ := b
 rw [Bool.eq_iff_iff]
 simp only [Bool.and_eq_true, beq_iff_eq, decide_eq_true_eq, PlM.mk.injEq]
theorem pl_page_cells (a : PlM) : (plC a).toArray.extract 2 (2 + 7) = (pgC a.p).toArray := rfl
end
section
open Go.RowKit Bm
end
end Go.Proofs.YtnfgpjfldgocaaaGreat
