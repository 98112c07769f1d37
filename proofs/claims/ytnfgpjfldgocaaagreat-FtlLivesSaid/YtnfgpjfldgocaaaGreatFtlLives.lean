import Derived.Test.YtnfgpjfldgocaaaGreatRows
import Derived.Test.YtnfgpjfldgocaaaGreatLaw
import Derived.Test.YtnfgpjfldgocaaaGreatFtlWalk6
import Derived.Test.YtnfgpjfldgocaaaGreatFtlLw
import Derived.WalkKit
import Derived.ProofKit
import Derived.OpenShut
namespace Go.Proofs.YtnfgpjfldgocaaaGreat.ftlLives
open Go.ChangeShapes Go.WideShapes Go.ChangeAt Go.RowKit
theorem own : ownKnob Tryz.prog.godebug = none := by kernel_rfl
theorem laid : laidOutB Tryz.prog = true := by kernel_rfl
theorem readable : readableB Tryz.prog Tryz.f4.params.toList = true := by kernel_rfl
set_option maxRecDepth 100000 in
theorem lifted (os : Os) (started : os.Started) (H : Type) (enc : TypeId × Value -> H) :
  ReturnsInHanded {} Tryz.checked os 4 .any (Rows.ftlLivesSpec.pre6 enc Tryz.prog Tryz.f4 Rows.ftlLivesRow.domain false) (Rows.ftlLivesSpec.post enc Tryz.prog Tryz.f4 false true false false) := by
 refine returnsInHanded_of_change (C := Tryz.checked) own started (by kernel_rfl) Tryz.func4
  (ChangeSpec.witness6 (enc := enc) (C := Tryz.checked) false ⟨#[], #[.int .u8 0, .slice none 0 0], []⟩ 8 (by kernel_rfl) (by kernel_rfl) (by kernel_rfl) (by kernel_rfl)) ?_
 intro W base args ds gs before hval0 hW _ _
 have hval : ∀ (j : Nat) t v, Tryz.f4.params[j]? = some t -> args[j]? = some v -> Value.okWide Tryz.prog W .any base t v := hval0
 have hW' := hW
 obtain ⟨p, q, hA0, _, _, _, _⟩ := hW
 have hA : DataW.TrodAll enc Tryz.prog W 0 (fun _ => true) true Tryz.f4.params.toList args.toList ds p := hA0
 rw [Tryz.params4] at hA hval
 obtain ⟨v0, vs0, d0, ds0, p0, q0, hargs, e0, _, h0, r0'⟩ := trodAll_cons hA
 obtain ⟨v1, vs1, d1, ds1, p1, q1, rfl, e1, _, h1, r1'⟩ := trodAll_cons r0'
 obtain ⟨rfl, e2, _⟩ := trodAll_nil r1'
 have hds : ds = [d0, d1] := by rw [e0, e1, e2]
 obtain rfl : args = #[v0, v1] := by cases args; simp_all
 obtain ⟨a0, rfl, _, _, b0⟩ := open_int Tryz.underlying5 (hval 0 5 v0 rfl rfl) h0
 obtain ⟨A1, n1, cap1, xs1, rfl, r1⟩ := open_Lives (hval 1 50 v1 rfl rfl) h1
 refine (ftlLives_walk a0 b0 A1 n1 cap1 xs1 W r1).mono fun e W' ⟨he, hB⟩ => ?_
 subst he
 refine ⟨_, rfl, law_post laid readable (by kernel_rfl) Tryz.underlying4 rfl hW' (fun xs hx => ?_) hB⟩
 rw [hx, hds]
 rfl
theorem over : Rows.ftlLivesRow.holds Tryz.pinned (OpenSpec.ofChange Rows.ftlLivesSpec) :=
 OpenClaim.holds_of_wide 4 Tryz.f4 rfl rfl rfl rfl rfl rfl rfl ⟨rfl, rfl, rfl, rfl, rfl⟩ rfl rfl rfl rfl rfl (by kernel_rfl) Tryz.func4 (by kernel_rfl)
  (of_decide_eq_true (by kernel_rfl)) (by unfold Func.isWrapper; first | (rw [if_pos (by decide +kernel)]; kernel_rfl) | (rw [if_neg (by decide +kernel)]; exact ⟨rfl, rfl⟩))
  (fun os started H enc _ => lifted os started H enc)
theorem proved : Rows.FtlLivesSaid :=
 over
#print axioms proved
end Go.Proofs.YtnfgpjfldgocaaaGreat.ftlLives
