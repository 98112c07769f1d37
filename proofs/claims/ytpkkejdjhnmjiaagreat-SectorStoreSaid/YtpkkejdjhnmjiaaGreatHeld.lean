/- A whole load of a block within a region that draws its order, held. -/
import Derived.Test.YtpkkejdjhnmjiaaGreatScanMath
import Derived.Deep.MidRow
import Derived.Deep.DrawnRows
import Derived.Deep.RegionHeld3
import Derived.Deep.DeepCutAuto
import Derived.BigRegion
namespace Go.Proofs.YtpkkejdjhnmjiaaGreat
open Go.RowKit Bm
def OpIs (o : Oper) (v : Value) (W : World) (R : Result Next) : Prop := R = (execOp (fun _ => v) o).run Tryz.prog W
theorem op_ex (o : Oper) (v : Value) (W : World) : ∃ R, OpIs o v W R := ⟨_, rfl⟩
theorem op_is (o : Oper) (v : Value) (W : World) : (op_ex o v W).choose = (execOp (fun _ => v) o).run Tryz.prog W := (op_ex o v W).choose_spec
def ldB (T : TypeId) : Oper := ⟨none, .load T (.tmp 0), 0, "", #[], none⟩
theorem ldB_is (T : TypeId) (ρ : Operand → Value) (d : Option Tmp) (x : Operand) (ty : TypeId) (pos : String) (af : Array Edge) (gd : Option (Nat × Bool)) (W : World) : (execOp ρ ⟨d, .load T x, ty, pos, af, gd⟩).run Tryz.prog W = (op_ex (ldB T) (ρ x) W).choose := (op_is (ldB T) (ρ x) W).symm
end Go.Proofs.YtpkkejdjhnmjiaaGreat
