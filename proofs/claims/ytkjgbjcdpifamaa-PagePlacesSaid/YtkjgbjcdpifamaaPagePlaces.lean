/- The statement PagePlaces: whatever it is given, its function returns true and leaves its arguments as they were; no condition. -/
import Derived.Test.YtkjgbjcdpifamaaRows
import Derived.Test.YtkjgbjcdpifamaaLaw
import Derived.Test.YtkjgbjcdpifamaaPageWalk1
import Derived.Test.YtkjgbjcdpifamaaPageOpens
import Derived.WalkKit
import Derived.ProofKit
import Derived.OpenShut
namespace Go.Proofs.Ytkjgbjcdpifamaa.pagePlaces
open Go.ChangeShapes Go.WideShapes Go.ChangeAt Go.RowKit Bm

theorem own : ownKnob Try.prog.godebug = none := by kernel_rfl
theorem laid : laidOutB Try.prog = true := by kernel_rfl
theorem readable : readableB Try.prog Try.f7.params.toList = true := by kernel_rfl

set_option maxRecDepth 100000 in
theorem lifted (os : Os) (started : os.Started) (H : Type) (enc : TypeId × Value → H) :
    ReturnsInHanded {} Try.checked os 7 .any (Rows.pagePlacesSpec.pre6 enc Try.prog Try.f7 Rows.pagePlacesRow.domain false) (Rows.pagePlacesSpec.post enc Try.prog Try.f7 false true false false) := by
  refine returnsInHanded_of_change (C := Try.checked) own started (by kernel_rfl) Try.func7
    (ChangeSpec.witness6 (enc := enc) (C := Try.checked) false ⟨#[], #[.agg #[.int .u8 0, .int .u8 0], .agg #[.int .u8 0, .int .u8 0]], []⟩ 8 (by kernel_rfl) (by kernel_rfl) (by kernel_rfl) (by kernel_rfl)) ?_
  intro W base args ds gs before hval0 hW _ _
  have hval : ∀ (j : Nat) t v, Try.f7.params[j]? = some t → args[j]? = some v → Value.okWide Try.prog W .any base t v := hval0
  have hW' := hW
  obtain ⟨p, q, hA0, _, _, _, _⟩ := hW
  have hA : DataW.TrodAll enc Try.prog W 0 (fun _ => true) true Try.f7.params.toList args.toList ds p := hA0
  rw [Try.params7] at hA hval
  obtain ⟨v0, vs0, d0, ds0, p0, q0, hargs, e0, _, h0, r0'⟩ := trodAll_cons hA
  obtain ⟨v1, vs1, d1, ds1, p1, q1, rfl, e1, _, h1, r1'⟩ := trodAll_cons r0'
  obtain ⟨rfl, e2, _⟩ := trodAll_nil r1'
  have hds : ds = [d0, d1] := by rw [e0, e1, e2]
  obtain rfl : args = #[v0, v1] := by cases args; simp_all
  obtain ⟨zs0, hzl0, rfl, _, _, hzw0⟩ := open_arr Try.underlying50 Try.underlying5 (by kernel_rfl) (by kernel_rfl) (hval 0 50 v0 rfl rfl) h0
  obtain ⟨z0x0, z0x1, rfl⟩ := list_two hzl0
  simp only [List.map_cons, List.map_nil]
  obtain ⟨zs1, hzl1, rfl, _, _, hzw1⟩ := open_arr Try.underlying50 Try.underlying5 (by kernel_rfl) (by kernel_rfl) (hval 1 50 v1 rfl rfl) h1
  obtain ⟨z1x0, z1x1, rfl⟩ := list_two hzl1
  simp only [List.map_cons, List.map_nil]
  refine (pagePlaces_walk z0x0 z0x1 (hzw0 _ (by simp)) (hzw0 _ (by simp)) z1x0 z1x1 (hzw1 _ (by simp)) (hzw1 _ (by simp)) W).mono fun e W' ⟨he, hB⟩ => ?_
  subst he
  refine ⟨_, rfl, law_post laid readable (by kernel_rfl) Try.underlying4 rfl hW' (fun xs hx => ?_) hB⟩
  rw [hx, hds]
  rfl

theorem over : Rows.pagePlacesRow.holds Try.pinned (OpenSpec.ofChange Rows.pagePlacesSpec) :=
  OpenClaim.holds_of_wide 7 Try.f7 rfl rfl rfl rfl rfl rfl rfl ⟨rfl, rfl, rfl, rfl, rfl⟩ rfl rfl rfl rfl rfl (by kernel_rfl) Try.func7 (by kernel_rfl)
    (of_decide_eq_true (by kernel_rfl)) (by unfold Func.isWrapper; first | (rw [if_pos (by decide +kernel)]; kernel_rfl) | (rw [if_neg (by decide +kernel)]; exact ⟨rfl, rfl⟩))
    (fun os started H enc _ => lifted os started H enc)

theorem proved : Rows.PagePlacesSaid :=
  over
#print axioms proved
end Go.Proofs.Ytkjgbjcdpifamaa.pagePlaces
