/- The statement CsrWrites: whatever it is given, its function returns true and leaves its arguments as they were; no condition. -/
import Derived.Test.YtedpeojgpnnddaaRows
import Derived.Test.YtedpeojgpnnddaaLaw
import Derived.Test.YtedpeojgpnnddaaCsrWalk2
import Derived.Test.YtedpeojgpnnddaaCsrOp
import Derived.WalkKit
import Derived.ProofKit
import Derived.OpenShut
namespace Go.Proofs.Ytedpeojgpnnddaa.csrWrites
open Go.ChangeShapes Go.WideShapes Go.ChangeAt Go.RowKit

theorem own : ownKnob Try.prog.godebug = none := by kernel_rfl
theorem laid : laidOutB Try.prog = true := by kernel_rfl
theorem readable : readableB Try.prog Try.f4.params.toList = true := by kernel_rfl

set_option maxRecDepth 100000 in
theorem lifted (os : Os) (started : os.Started) (H : Type) (enc : TypeId × Value → H) :
    ReturnsInHanded {} Try.checked os 4 .any (Rows.csrWritesSpec.pre6 enc Try.prog Try.f4 Rows.csrWritesRow.domain false) (Rows.csrWritesSpec.post enc Try.prog Try.f4 false true false false) := by
  refine returnsInHanded_of_change (C := Try.checked) own started (by kernel_rfl) Try.func4
    (ChangeSpec.witness6 (enc := enc) (C := Try.checked) false ⟨#[], #[.agg #[.int .u32 0, .int .u32 0, .int .u32 0, .int .u32 0, .int .u32 0, .int .u32 0, .int .u32 0, .int .u32 0, .int .u32 0, .int .u32 0, .int .u32 0, .int .u32 0, .int .u32 0, .int .u32 0, .int .u32 0, .int .u32 0, .int .u64 0], .agg #[.int .i64 0, .int .i64 0, .int .u32 0], .int .u32 0], []⟩ 8 (by kernel_rfl) (by kernel_rfl) (by kernel_rfl) (by kernel_rfl)) ?_
  intro W base args ds gs before hval0 hW _ _
  have hval : ∀ (j : Nat) t v, Try.f4.params[j]? = some t → args[j]? = some v → Value.okWide Try.prog W .any base t v := hval0
  have hW' := hW
  obtain ⟨p, q, hA0, _, _, _, _⟩ := hW
  have hA : DataW.TrodAll enc Try.prog W 0 (fun _ => true) true Try.f4.params.toList args.toList ds p := hA0
  rw [Try.params4] at hA hval
  obtain ⟨v0, vs0, d0, ds0, p0, q0, hargs, e0, _, h0, r0'⟩ := trodAll_cons hA
  obtain ⟨v1, vs1, d1, ds1, p1, q1, rfl, e1, _, h1, r1'⟩ := trodAll_cons r0'
  obtain ⟨v2, vs2, d2, ds2, p2, q2, rfl, e2, _, h2, r2'⟩ := trodAll_cons r1'
  obtain ⟨rfl, e3, _⟩ := trodAll_nil r2'
  have hds : ds = [d0, d1, d2] := by rw [e0, e1, e2, e3]
  obtain rfl : args = #[v0, v1, v2] := by cases args; simp_all
  obtain ⟨f0, rfl⟩ := open_File13 (hval 0 25 v0 rfl rfl) h0
  obtain ⟨pa1, pb1, px1, rfl, wa1, wb1⟩ := open_Put13 (hval 1 33 v1 rfl rfl) h1
  obtain ⟨a2, rfl, _, _, b2⟩ := open_int Try.underlying22 (hval 2 22 v2 rfl rfl) h2
  refine (csrWrites_walk f0 pa1 pb1 px1 wa1 wb1 a2 b2 W).mono fun e W' ⟨he, hB⟩ => ?_
  subst he
  refine ⟨_, rfl, law_post laid readable (by kernel_rfl) Try.underlying4 rfl hW' (fun xs hx => ?_) hB⟩
  rw [hx, hds]
  rfl

theorem over : Rows.csrWritesRow.holds Try.pinned (OpenSpec.ofChange Rows.csrWritesSpec) :=
  OpenClaim.holds_of_wide 4 Try.f4 rfl rfl rfl rfl rfl rfl rfl ⟨rfl, rfl, rfl, rfl, rfl⟩ rfl rfl rfl rfl rfl (by kernel_rfl) Try.func4 (by kernel_rfl)
    (of_decide_eq_true (by kernel_rfl)) (by unfold Func.isWrapper; first | (rw [if_pos (by decide +kernel)]; kernel_rfl) | (rw [if_neg (by decide +kernel)]; exact ⟨rfl, rfl⟩))
    (fun os started H enc _ => lifted os started H enc)

theorem proved : Rows.CsrWritesSaid :=
  over
#print axioms proved
end Go.Proofs.Ytedpeojgpnnddaa.csrWrites
