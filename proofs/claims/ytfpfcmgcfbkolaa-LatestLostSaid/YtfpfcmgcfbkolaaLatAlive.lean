/- The answers that layer latest's statements begin with. -/
import Derived.Test.YtfpfcmgcfbkolaaLatP
import Derived.Test.YtfpfcmgcfbkolaaScanAlive
namespace Go.Proofs.Ytfpfcmgcfbkolaa
open Go.RowKit Bm

def pg5 : PageM := ⟨3#32, 5#32, false, 0#32, 0#32, 0#32, 0#32⟩
def pg6 : PageM := ⟨3#32, 6#32, false, 0#32, 0#32, 0#32, 0#32⟩
def blC : BlkM := ⟨1, 0#32, [1, 0, 0, 0, 0, 0, 0, 0], [pg5, pg0, pg0, pg0, pg0, pg0, pg0, pg0]⟩
def blD : BlkM := ⟨1, 1#32, [1, 0, 0, 0, 0, 0, 0, 0], [pg6, pg0, pg0, pg0, pg0, pg0, pg0, pg0]⟩
def plD : PlM := ⟨1, 0, pg6⟩
theorem alive7_found : scOf (bltPre [[pg5], [pg6]] 2) = ([blC, blD], 0) := by decide +kernel
theorem alive7_of : lOf (cnt [blC, blD]) = [plD] := by decide +kernel
theorem alive7_find : lFind [plD] 3#32 = some plD := by decide +kernel
theorem alive7_n0 : lNeeded (cnt [blC, blD]) 0 = [] := by decide +kernel
theorem alive7_n1 : (lNeeded (cnt [blC, blD]) 1).length = 1 := by decide +kernel
theorem alive7_top : lTop (cnt [blC, blD]) = 6#32 := by decide +kernel

set_option maxRecDepth 100000 in
set_option maxHeartbeats 4000000 in
theorem alive7_any (w : World) : Calls Try.prog 9 #[] w fun e w' => e = .returned (.bool true) ∧ Below w.heap.size w w' := by
  have hz := spl_zero
  obtain ⟨W2, hW2⟩ : ∃ W2, ((w.alloc (.cells (pgC pg5).toArray 46)).alloc (.cells (pgC pg6).toArray 46)).alloc (.cells #[.slice (some ⟨w.heap.size, 0, none⟩) 1 1, .slice (some ⟨w.heap.size + 1, 0, none⟩) 1 1] 68) = W2 := ⟨_, rfl⟩
  have b2 : Below w.heap.size w W2 := by rw [← hW2]; exact (((Below.refl _ w).alloc (Nat.le_refl _) _).alloc (by simp) _).alloc (by simp; omega) _
  have p5 : At W2 w.heap.size 46 (pgC pg5) := by rw [← hW2]; exact ((At.news w _ _).alloc _).alloc _
  have p6 : At W2 (w.heap.size + 1) 46 (pgC pg6) := by rw [← hW2]; exact (At.alloc_new _ _ _ (by simp) rfl).alloc _
  have q2 : At W2 (w.heap.size + 2) 68 [.slice (some ⟨w.heap.size, 0, none⟩) 1 1, .slice (some ⟨w.heap.size + 1, 0, none⟩) 1 1] := by rw [← hW2]; exact At.alloc_new _ _ _ (by simp) rfl
  have one : ∀ g p, At W2 g 46 (pgC p) → ReadsP W2 (some ⟨g, 0, none⟩) 1 1 [p] := fun g p h => ⟨rfl, by omega, by unfold maxLen; omega, fun _ => ⟨_, 0, rfl, h.lt, fun j p' hp => by
    have hj : j < 1 := (List.getElem?_eq_some_iff.1 hp).1
    obtain rfl : j = 0 := by omega
    simp only [List.getElem?_cons_zero, Option.some.injEq] at hp
    subst hp
    intro i v hv
    simp only [Nat.zero_mul, Nat.zero_add]
    exact (h.cell i).trans hv⟩⟩
  have rp : ReadsPP W2 (some ⟨w.heap.size + 2, 0, none⟩) 2 2 [[pg5], [pg6]] := ⟨rfl, by omega, by unfold maxLen; omega, fun _ => ⟨_, rfl, q2.lt, fun j ps hp => by
    have e : (⟨w.heap.size + 2, 0, none⟩ : Addr).add j = ⟨w.heap.size + 2, j, none⟩ := by unfold Addr.add; split <;> simp_all
    have hj : j < 2 := (List.getElem?_eq_some_iff.1 hp).1
    obtain rfl | rfl : j = 0 ∨ j = 1 := by omega
    · simp only [List.getElem?_cons_zero, Option.some.injEq] at hp
      subst hp
      exact ⟨_, 1, 1, by rw [e]; exact q2.cell 0, one _ _ p5⟩
    · simp only [List.getElem?_cons_succ, List.getElem?_cons_zero, Option.some.injEq] at hp
      subst hp
      exact ⟨_, 1, 1, by rw [e]; exact q2.cell 1, one _ _ p6⟩⟩⟩
  have PB := built_any _ 2 2 _ W2 rp (by omega)
  rw [← hW2] at PB
  have PBH := Lib.hid PB
  have HB2 := Lib.hid b2
  rw [← hW2] at HB2
  clear PB b2 p5 p6 q2 rp one hW2
  have HF := Lib.hid alive7_found
  have HO := Lib.hid alive7_of
  have HFI := Lib.hid alive7_find
  have HN0 := Lib.hid alive7_n0
  have HN1 := Lib.hid alive7_n1
  have HTO := Lib.hid alive7_top
  unfold pgC at PBH
  have u3 : U pg5.s = 3 := rfl
  have u5 : U pg5.q = 5 := rfl
  have ug : pg5.g = false := rfl
  have u0 : U pg5.d0 = 0 := rfl
  have u1 : U pg5.d1 = 0 := rfl
  have u2 : U pg5.d2 = 0 := rfl
  have u4 : U pg5.d3 = 0 := rfl
  have v3 : U pg6.s = 3 := rfl
  have v5 : U pg6.q = 6 := rfl
  have vg : pg6.g = false := rfl
  have v0 : U pg6.d0 = 0 := rfl
  have v1 : U pg6.d1 = 0 := rfl
  have v2 : U pg6.d2 = 0 := rfl
  have v4 : U pg6.d3 = 0 := rfl
  rw [u3, u5, ug, u0, u1, u2, u4, v3, v5, vg, v0, v1, v2, v4] at PBH
  clear u3 u5 ug u0 u1 u2 u4 v3 v5 vg v0 v1 v2 v4
  go_enter Try.func9, Try.ntmps9
  go_upto_region 4 with (first
    | (go_at_call 23; (refine PBH.out.mono ?_); rintro e w3 ⟨B3, c3, rfl, hr, hb⟩; have HR3 := Lib.hid hr; have HB := Lib.hid (below_then HB2.out hb); clear hr hb)
    | (go_at_call 22; (refine (swords_any _ _ _ _ _ HR3.out).mono ?_); rintro e w4 ⟨B4, c4, rfl, hr, hb⟩; rw [HF.out] at hr ⊢; have HX := Lib.hid hr; have HB := Lib.hid (below_then HB.out hb); clear hr hb)
    | (go_at_call 13; (refine (lof_any _ _ _ _ _ HX.out (by simp)).mono ?_); rintro e w5 ⟨B5, c5, rfl, hr, hb⟩; rw [HO.out] at hr ⊢; have HP := Lib.hid hr; have HX := Lib.hid (HX.out.kept hb); have HB := Lib.hid (below_then HB.out hb); clear hr hb)
    | (go_at_call 19; (refine (lfind_any _ _ _ _ 3#32 _ HP.out (by simp)).mono ?_); rintro e w6 ⟨rfl, hb⟩; rw [HFI.out]; dsimp only [Option.getD, Option.isSome]; unfold plV; have HX := Lib.hid (HX.out.kept hb); have HB := Lib.hid (below_then HB.out hb); clear hb)
    | (refine wpList_stm (pre := []) (post := []) (xs := plC pl0) (ys := plC plD) _ _ rfl rfl rfl rfl spl_size (by rfl) (plC_len _) (plC_one _) rfl (by simp) (At.news w6 _ (plC pl0)) ?_; intro V A3 T3; rw [List.nil_append, List.append_nil] at A3; have HA3 := Lib.hid A3; have HT3 := Lib.hid T3; clear A3 T3))
  have hbV : Below w6.heap.size w6 V := ((Below.refl _ w6).alloc (Nat.le_refl _) _).trans (HT3.out.below (fun k hk => by unfold Just at hk; omega) (by simp))
  have HB := Lib.hid (below_then HB.out hbV)
  have HX := Lib.hid (HX.out.kept hbV)
  have d0 : V.cell? ⟨w6.heap.size, 0, none⟩ = some (.int .i64 1) := HA3.out.cell 0
  clear hbV
  go_wp2_with (first
    | (go_at_call 15; (refine (lneeded_any _ _ _ _ _ _ HX.out (by simp)).mono ?_); rintro e w7 ⟨B7, c7, rfl, hr, hb⟩; (first | rw [HN0.out] | rw [HN1.out]); have HX := Lib.hid (HX.out.kept hb); have HB := Lib.hid (below_then HB.out hb); clear hr hb)
    | (go_at_call 17; (refine (ltop_any _ _ _ _ _ HX.out (by simp)).mono ?_); rintro e w8 ⟨rfl, hb⟩; rw [HTO.out]; have HB := Lib.hid (below_then HB.out hb); clear hb))
  go_ret
  exact ⟨rfl, HB.out⟩
end Go.Proofs.Ytfpfcmgcfbkolaa
