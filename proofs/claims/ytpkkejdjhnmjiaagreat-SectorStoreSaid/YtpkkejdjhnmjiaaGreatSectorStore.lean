/- The statement SectorStore: whatever it is given, its function returns true and leaves its arguments as they were; no condition. -/
import Derived.Test.YtpkkejdjhnmjiaaGreatRows
import Derived.Test.YtpkkejdjhnmjiaaGreatOpens
import Derived.Test.YtpkkejdjhnmjiaaGreatPdWalk7
import Derived.Test.YtpkkejdjhnmjiaaGreatSecOp
import Derived.WalkKit
import Derived.ProofKit
import Derived.OpenShut
namespace Go.Proofs.YtpkkejdjhnmjiaaGreat.sectorStore
open Go.ChangeShapes Go.WideShapes Go.ChangeAt Go.RowKit

theorem own : ownKnob Tryz.prog.godebug = none := by kernel_rfl
theorem laid : laidOutB Tryz.prog = true := by kernel_rfl
theorem readable : readableB Tryz.prog Tryz.f3.params.toList = true := by kernel_rfl

set_option maxRecDepth 100000 in
theorem lifted (os : Os) (started : os.Started) (H : Type) (enc : TypeId × Value → H) :
    ReturnsInHanded {} Tryz.checked os 3 .any (Rows.sectorStoreSpec.pre6 enc Tryz.prog Tryz.f3 Rows.sectorStoreRow.domain false) (Rows.sectorStoreSpec.post enc Tryz.prog Tryz.f3 false true false false) := by
  refine returnsInHanded_of_change (C := Tryz.checked) own started (by kernel_rfl) Tryz.func3
    (ChangeSpec.witness6 (enc := enc) (C := Tryz.checked) false ⟨#[], #[.slice none 0 0], []⟩ 8 (by kernel_rfl) (by kernel_rfl) (by kernel_rfl) (by kernel_rfl)) ?_
  intro W base args ds gs before hval0 hW _ _
  have hval : ∀ (j : Nat) t v, Tryz.f3.params[j]? = some t → args[j]? = some v → Value.okWide Tryz.prog W .any base t v := hval0
  have hW' := hW
  obtain ⟨p, q, hA0, _, _, _, _⟩ := hW
  have hA : DataW.TrodAll enc Tryz.prog W 0 (fun _ => true) true Tryz.f3.params.toList args.toList ds p := hA0
  rw [Tryz.params3] at hA hval
  obtain ⟨v0, vs0, d0, ds0, p0, q0, hargs, e0, _, h0, r0'⟩ := trodAll_cons hA
  obtain ⟨rfl, e1, _⟩ := trodAll_nil r0'
  have hds : ds = [d0] := by rw [e0, e1]
  obtain rfl : args = #[v0] := by cases args; simp_all
  obtain ⟨A0, cap0, xs0, rfl, bo0, r0⟩ := open_Act10s (hval 0 22 v0 rfl rfl) h0
  refine (sectorStore_walk A0 cap0 xs0 bo0 W r0).mono fun e W' ⟨he, hB⟩ => ?_
  subst he
  refine ⟨_, rfl, law_post laid readable (by kernel_rfl) Tryz.underlying4 rfl hW' (fun xs hx => ?_) hB⟩
  rw [hx, hds]
  rfl

theorem over : Rows.sectorStoreRow.holds Tryz.pinned (OpenSpec.ofChange Rows.sectorStoreSpec) :=
  OpenClaim.holds_of_wide 3 Tryz.f3 rfl rfl rfl rfl rfl rfl rfl ⟨rfl, rfl, rfl, rfl, rfl⟩ rfl rfl rfl rfl rfl (by kernel_rfl) Tryz.func3 (by kernel_rfl)
    (of_decide_eq_true (by kernel_rfl)) (by unfold Func.isWrapper; first | (rw [if_pos (by decide +kernel)]; kernel_rfl) | (rw [if_neg (by decide +kernel)]; exact ⟨rfl, rfl⟩))
    (fun os started H enc _ => lifted os started H enc)

theorem proved : Rows.SectorStoreSaid :=
  over
#print axioms proved
end Go.Proofs.YtpkkejdjhnmjiaaGreat.sectorStore
