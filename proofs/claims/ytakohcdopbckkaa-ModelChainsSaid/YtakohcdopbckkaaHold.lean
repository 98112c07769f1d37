/- A whole load within a region that draws its order, held: for elements of any width. -/
import Derived.Test.YtakohcdopbckkaaKd
import Derived.Deep.MidRow
import Derived.Deep.DrawnRows
import Derived.Deep.RegionHeld3
import Derived.Deep.DeepCutAuto
import Derived.BigRegion
namespace Go.Proofs.Ytakohcdopbckkaa
open Go.RowKit Bm

/-- The run of an operation on one value, held (as a choice: no code is made of it). -/
def RunAs (o : Oper) (v : Value) (W : World) (R : Result Next) : Prop := R = (execOp (fun _ => v) o).run Try.prog W
theorem run_ex (o : Oper) (v : Value) (W : World) : ∃ R, RunAs o v W R := ⟨_, rfl⟩
theorem run_as (o : Oper) (v : Value) (W : World) : (run_ex o v W).choose = (execOp (fun _ => v) o).run Try.prog W := (run_ex o v W).choose_spec
def loadOf (T : TypeId) : Oper := ⟨none, .load T (.tmp 0), 0, "", #[], none⟩
theorem load_is (T : TypeId) (ρ : Operand → Value) (d : Option Tmp) (x : Operand) (ty : TypeId) (pos : String) (af : Array Edge) (gd : Option (Nat × Bool)) (W : World) : (execOp ρ ⟨d, .load T x, ty, pos, af, gd⟩).run Try.prog W = (run_ex (loadOf T) (ρ x) W).choose := (run_as (loadOf T) (ρ x) W).symm
theorem load_at {T : TypeId} {desc : TypeDesc} {n : Nat} (hu : Try.prog.underlying T = some desc) (hd : desc.isRow = true) (hi : (Try.prog.info? T).map (·.size) = some n) {W : World} {g off : Nat} {cs : List Value} (hc : W.rangeAt g off cs) (hn : cs.length = n) : (run_ex (loadOf T) (.pointer (some ⟨g, off, none⟩)) W).choose = .ok (.value (.agg cs.toArray)) W := by
  have h := run_loadAt_mid W g off _ cs _ hc hu hd (by rw [hi, hn])
  rw [run_as]
  unfold loadOf execOp
  simp only [Sem.run_bind, h, Result.andThen_ok, Sem.run_pure]
end Go.Proofs.Ytakohcdopbckkaa
