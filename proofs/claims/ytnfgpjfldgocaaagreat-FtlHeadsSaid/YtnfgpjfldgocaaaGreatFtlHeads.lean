/- The statement FtlHeads: whatever it is given, its function returns true and leaves its arguments as they were; no condition. -/
import Derived.Test.YtnfgpjfldgocaaaGreatRows
import Derived.Test.YtnfgpjfldgocaaaGreatLaw
import Derived.Test.YtnfgpjfldgocaaaGreatFtlWalk4
import Derived.Test.YtnfgpjfldgocaaaGreatFtlOp
import Derived.WalkKit
import Derived.ProofKit
import Derived.OpenShut
namespace Go.Proofs.YtnfgpjfldgocaaaGreat.ftlHeads
open Go.ChangeShapes Go.WideShapes Go.ChangeAt Go.RowKit

theorem own : ownKnob Tryz.prog.godebug = none := by kernel_rfl
theorem laid : laidOutB Tryz.prog = true := by kernel_rfl
theorem readable : readableB Tryz.prog Tryz.f6.params.toList = true := by kernel_rfl

set_option maxRecDepth 100000 in
theorem lifted (os : Os) (started : os.Started) (H : Type) (enc : TypeId × Value → H) :
    ReturnsInHanded {} Tryz.checked os 6 .any (Rows.ftlHeadsSpec.pre6 enc Tryz.prog Tryz.f6 Rows.ftlHeadsRow.domain false) (Rows.ftlHeadsSpec.post enc Tryz.prog Tryz.f6 false true false false) := by
  refine returnsInHanded_of_change (C := Tryz.checked) own started (by kernel_rfl) Tryz.func6
    (ChangeSpec.witness6 (enc := enc) (C := Tryz.checked) false ⟨#[], #[.slice none 0 0], []⟩ 8 (by kernel_rfl) (by kernel_rfl) (by kernel_rfl) (by kernel_rfl)) ?_
  intro W base args ds gs before hval0 hW _ _
  have hval : ∀ (j : Nat) t v, Tryz.f6.params[j]? = some t → args[j]? = some v → Value.okWide Tryz.prog W .any base t v := hval0
  have hW' := hW
  obtain ⟨p, q, hA0, _, _, _, _⟩ := hW
  have hA : DataW.TrodAll enc Tryz.prog W 0 (fun _ => true) true Tryz.f6.params.toList args.toList ds p := hA0
  rw [Tryz.params6] at hA hval
  obtain ⟨v0, vs0, d0, ds0, p0, q0, hargs, e0, _, h0, r0'⟩ := trodAll_cons hA
  obtain ⟨rfl, e1, _⟩ := trodAll_nil r0'
  have hds : ds = [d0] := by rw [e0, e1]
  obtain rfl : args = #[v0] := by cases args; simp_all
  obtain ⟨A0, n0, cap0, xs0, rfl, r0⟩ := open_Acts8 (hval 0 22 v0 rfl rfl) h0
  refine (ftlHeads_walk A0 n0 cap0 xs0 W r0).mono fun e W' ⟨he, hB⟩ => ?_
  subst he
  refine ⟨_, rfl, law_post laid readable (by kernel_rfl) Tryz.underlying4 rfl hW' (fun xs hx => ?_) hB⟩
  rw [hx, hds]
  rfl

theorem over : Rows.ftlHeadsRow.holds Tryz.pinned (OpenSpec.ofChange Rows.ftlHeadsSpec) :=
  OpenClaim.holds_of_wide 6 Tryz.f6 rfl rfl rfl rfl rfl rfl rfl ⟨rfl, rfl, rfl, rfl, rfl⟩ rfl rfl rfl rfl rfl (by kernel_rfl) Tryz.func6 (by kernel_rfl)
    (of_decide_eq_true (by kernel_rfl)) (by unfold Func.isWrapper; first | (rw [if_pos (by decide +kernel)]; kernel_rfl) | (rw [if_neg (by decide +kernel)]; exact ⟨rfl, rfl⟩))
    (fun os started H enc _ => lifted os started H enc)

theorem proved : Rows.FtlHeadsSaid :=
  over
#print axioms proved
end Go.Proofs.YtnfgpjfldgocaaaGreat.ftlHeads
