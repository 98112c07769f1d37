/- A whole load of a block within a region that draws its order, held. -/
import Derived.Test.YtnfgpjfldgocaaaGreatScanMath
import Derived.Deep.MidRow
import Derived.Deep.DrawnRows
import Derived.Deep.RegionHeld3
import Derived.Deep.DeepCutAuto
import Derived.BigRegion
namespace Go.Proofs.YtnfgpjfldgocaaaGreat
open Go.RowKit Bm

/-- The run of an operation on one value, held (as a choice: no code is made of it). -/
def OpIs (o : Oper) (v : Value) (W : World) (R : Result Next) : Prop := R = (execOp (fun _ => v) o).run Tryz.prog W
theorem op_ex (o : Oper) (v : Value) (W : World) : ∃ R, OpIs o v W R := ⟨_, rfl⟩
theorem op_is (o : Oper) (v : Value) (W : World) : (op_ex o v W).choose = (execOp (fun _ => v) o).run Tryz.prog W := (op_ex o v W).choose_spec
def ldB (T : TypeId) : Oper := ⟨none, .load T (.tmp 0), 0, "", #[], none⟩
theorem ldB_is (T : TypeId) (ρ : Operand → Value) (d : Option Tmp) (x : Operand) (ty : TypeId) (pos : String) (af : Array Edge) (gd : Option (Nat × Bool)) (W : World) : (execOp ρ ⟨d, .load T x, ty, pos, af, gd⟩).run Tryz.prog W = (op_ex (ldB T) (ρ x) W).choose := (op_is (ldB T) (ρ x) W).symm
theorem ldR_eq (ρ : Operand → Value) (d : Option Tmp) (x : Operand) (ty : TypeId) (pos : String) (af : Array Edge) (gd : Option (Nat × Bool)) (W : World) : (execOp ρ ⟨d, .load 72 x, ty, pos, af, gd⟩).run Tryz.prog W = (op_ex (ldB 72) (ρ x) W).choose := ldB_is _ ρ d x ty pos af gd W
theorem ldS_eq (ρ : Operand → Value) (d : Option Tmp) (x : Operand) (ty : TypeId) (pos : String) (af : Array Edge) (gd : Option (Nat × Bool)) (W : World) : (execOp ρ ⟨d, .load 101 x, ty, pos, af, gd⟩).run Tryz.prog W = (op_ex (ldB 101) (ρ x) W).choose := ldB_is _ ρ d x ty pos af gd W
theorem ldB_at {T : TypeId} {desc : TypeDesc} (hu : Tryz.prog.underlying T = some desc) (hd : desc.isRow = true) (hi : (Tryz.prog.info? T).map (·.size) = some 66) {W : World} {g off : Nat} {cs : List Value} (hc : W.rangeAt g off cs) (hn : cs.length = 66) : (op_ex (ldB T) (.pointer (some ⟨g, off, none⟩)) W).choose = .ok (.value (.agg cs.toArray)) W := by
  have h := run_loadAt_mid W g off _ cs _ hc hu hd (by rw [hi, hn])
  rw [op_is]
  unfold ldB execOp
  simp only [Sem.run_bind, h, Result.andThen_ok, Sem.run_pure]
theorem ldR_at {W : World} {g off : Nat} {cs : List Value} (hc : W.rangeAt g off cs) (hn : cs.length = 66) : (op_ex (ldB 72) (.pointer (some ⟨g, off, none⟩)) W).choose = .ok (.value (.agg cs.toArray)) W := ldB_at Tryz.underlying72 rfl (by kernel_rfl) hc hn
theorem ldS_at {W : World} {g off : Nat} {cs : List Value} (hc : W.rangeAt g off cs) (hn : cs.length = 66) : (op_ex (ldB 101) (.pointer (some ⟨g, off, none⟩)) W).choose = .ok (.value (.agg cs.toArray)) W := ldB_at Tryz.underlying101 rfl (by kernel_rfl) hc hn
theorem range_heap {w w' : World} {g off : Nat} {cs : List Value} (h : w.rangeAt g off cs) (hb : w'.heap = w.heap) : w'.rangeAt g off cs := range_kept h (by rw [hb])
end Go.Proofs.YtnfgpjfldgocaaaGreat
