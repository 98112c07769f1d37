/- The statement SectorCopies: whatever it is given, its function returns true and leaves its arguments as they were; no condition. -/
import Derived.Test.YtpkkejdjhnmjiaaRows
import Derived.Test.YtpkkejdjhnmjiaaLaw
import Derived.Test.YtpkkejdjhnmjiaaPdWalk6
import Derived.Test.YtpkkejdjhnmjiaaSecOp
import Derived.WalkKit
import Derived.ProofKit
import Derived.OpenShut
namespace Go.Proofs.Ytpkkejdjhnmjiaa.sectorCopies
open Go.ChangeShapes Go.WideShapes Go.ChangeAt Go.RowKit

theorem own : ownKnob Try.prog.godebug = none := by kernel_rfl
theorem laid : laidOutB Try.prog = true := by kernel_rfl
theorem readable : readableB Try.prog Try.f8.params.toList = true := by kernel_rfl

set_option maxRecDepth 100000 in
theorem lifted (os : Os) (started : os.Started) (H : Type) (enc : TypeId × Value → H) :
    ReturnsInHanded {} Try.checked os 8 .any (Rows.sectorCopiesSpec.pre6 enc Try.prog Try.f8 Rows.sectorCopiesRow.domain false) (Rows.sectorCopiesSpec.post enc Try.prog Try.f8 false true false false) := by
  refine returnsInHanded_of_change (C := Try.checked) own started (by kernel_rfl) Try.func8
    (ChangeSpec.witness6 (enc := enc) (C := Try.checked) false ⟨#[], #[.agg #[.int .u32 0, .int .u32 0, .int .u32 0, .int .u32 0, .int .u32 0, .int .u32 0, .int .u32 0, .int .u32 0, .int .u32 0, .int .u32 0, .int .u32 0, .int .u32 0, .int .u32 0, .int .u32 0, .int .u32 0, .int .u32 0, .int .u32 0, .int .u32 0, .int .u32 0, .int .u32 0, .int .u32 0, .int .u32 0, .int .u32 0, .int .u32 0, .int .u32 0, .int .u32 0, .int .u32 0, .int .u32 0, .int .u32 0, .int .u32 0, .int .u32 0, .int .u32 0, .int .u8 0, .int .u8 0, .int .u8 0]], []⟩ 8 (by kernel_rfl) (by kernel_rfl) (by kernel_rfl) (by kernel_rfl)) ?_
  intro W base args ds gs before hval0 hW _ _
  have hval : ∀ (j : Nat) t v, Try.f8.params[j]? = some t → args[j]? = some v → Value.okWide Try.prog W .any base t v := hval0
  have hW' := hW
  obtain ⟨p, q, hA0, _, _, _, _⟩ := hW
  have hA : DataW.TrodAll enc Try.prog W 0 (fun _ => true) true Try.f8.params.toList args.toList ds p := hA0
  rw [Try.params8] at hA hval
  obtain ⟨v0, vs0, d0, ds0, p0, q0, hargs, e0, _, h0, r0'⟩ := trodAll_cons hA
  obtain ⟨rfl, e1, _⟩ := trodAll_nil r0'
  have hds : ds = [d0] := by rw [e0, e1]
  obtain rfl : args = #[v0] := by cases args; simp_all
  obtain ⟨l0, f0, t0, m0, hl0, rfl, wf0, wt0, wm0⟩ := open_Copy10 (hval 0 58 v0 rfl rfl) h0
  refine (sectorCopies_walk l0 hl0 f0 wf0 t0 wt0 m0 wm0 W).mono fun e W' ⟨he, hB⟩ => ?_
  subst he
  refine ⟨_, rfl, law_post laid readable (by kernel_rfl) Try.underlying4 rfl hW' (fun xs hx => ?_) hB⟩
  rw [hx, hds]
  rfl

theorem over : Rows.sectorCopiesRow.holds Try.pinned (OpenSpec.ofChange Rows.sectorCopiesSpec) :=
  OpenClaim.holds_of_wide 8 Try.f8 rfl rfl rfl rfl rfl rfl rfl ⟨rfl, rfl, rfl, rfl, rfl⟩ rfl rfl rfl rfl rfl (by kernel_rfl) Try.func8 (by kernel_rfl)
    (of_decide_eq_true (by kernel_rfl)) (by unfold Func.isWrapper; first | (rw [if_pos (by decide +kernel)]; kernel_rfl) | (rw [if_neg (by decide +kernel)]; exact ⟨rfl, rfl⟩))
    (fun os started H enc _ => lifted os started H enc)

theorem proved : Rows.SectorCopiesSaid :=
  over
#print axioms proved
end Go.Proofs.Ytpkkejdjhnmjiaa.sectorCopies
