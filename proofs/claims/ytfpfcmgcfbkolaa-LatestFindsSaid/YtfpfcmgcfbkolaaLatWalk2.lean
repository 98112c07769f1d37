/- The walk of LatestFinds. -/
import Derived.Test.YtfpfcmgcfbkolaaLatHeld
import Derived.Deep.RegionWith
namespace Go.Proofs.Ytfpfcmgcfbkolaa
open Go.RowKit Bm

attribute [local go_sem ↓] Go.wp_at_zero Go.wp_at_succ ldPR_eq ldPS_eq bs_eq

set_option maxRecDepth 100000 in
set_option maxHeartbeats 4000000 in
theorem latestFinds_walk (A : Option Addr) (n cap : Nat) (xs : List PlM) (a1 : Int) (b1 : (Lit.int .u32 a1).wf = true) (w : World) (hA : ReadsL w A n cap xs) : Calls Try.prog 4 #[.slice A n cap, .int .u32 a1] w fun e w' => e = .returned (.bool true) ∧ Below w.heap.size w w' := by
  have hz := spl_zero
  have hz' := rpl_zero
  have HA := Lib.hid hA
  have hnm : (n : Int) ≤ 9223372036854775807 := by have := hA.le; have := hA.max; unfold maxLen at *; omega
  have AL := Lib.hid (alive7_any w)
  have bb := bounds_u32 b1
  obtain ⟨s, rfl⟩ := U_of bb.1 (by omega)
  clear hA b1 bb
  by_cases hn : n ≤ 200
  · have hn' : (n : Int) ≤ 200 := by omega
    obtain ⟨x, hx⟩ : ∃ x, x = (lFind xs s).getD pl0 := ⟨_, rfl⟩
    obtain ⟨f, hf⟩ : ∃ f, f = (lFind xs s).isSome := ⟨_, rfl⟩
    have LF := fun A n c W (h : ReadsL W A n c xs) (hn : n ≤ 100000) => lfind_any A n c xs s W h hn
    have RF := fun A n c W (h : ReadsL W A n c xs) (hn : n ≤ 1000000) => rlfind_any A n c xs s W h hn
    rw [← hx, ← hf] at LF RF
    unfold plV at LF RF
    have HLF := Lib.hid LF
    have HRF := Lib.hid RF
    clear LF RF hx hf
    go_enter Try.func4, Try.ntmps4
    go_wp2_with (first
      | (go_at_call 9; (refine AL.out.mono ?_); rintro e w1 ⟨rfl, hb⟩; have HB := Lib.hid hb; have HL := Lib.hid (HA.out.kept hb); clear hb)
      | (go_at_call 20; (refine (theirs_any _ _ _ _ _ HL.out (by omega)).mono ?_); rintro e w2 ⟨B2, c2, rfl, hr, hb⟩; have HX := Lib.hid hr; have HL := Lib.hid (HL.out.kept hb); have HB := Lib.hid (below_then HB.out hb); clear hr hb)
      | (go_at_call 19; (refine (HLF.out _ _ _ _ HX.out (by omega)).mono ?_); rintro e w3 ⟨rfl, hb⟩; have HL := Lib.hid (HL.out.kept hb); have HB := Lib.hid (below_then HB.out hb); clear hb)
      | (refine wpList_stm (ty := 42) (pre := []) (post := []) (xs := plC pl0) (ys := plC x) _ _ rfl rfl rfl rfl spl_size (by rfl) (plC_len _) (plC_one _) rfl (by simp) (At.news w3 _ (plC pl0)) ?_; intro V3 A3 T3; rw [List.nil_append, List.append_nil] at A3; have hb := ((Below.refl _ w3).alloc (Nat.le_refl _) (.cells (plC pl0).toArray 42)).trans (T3.below (fun k hk => by unfold Just at hk; omega) (by simp)); have HX3 := Lib.hid A3; have HL := Lib.hid (HL.out.kept hb); have HB := Lib.hid (below_then HB.out hb); clear A3 T3 hb)
      | (go_at_call 21; (refine (HRF.out _ _ _ _ HL.out (by omega)).mono ?_); rintro e w4 ⟨rfl, hb⟩; have HX4 := Lib.hid (HX3.out.kept (Turned.of_below hb (Nat.le_refl _) NoBlock) (fun h => h)); have HB := Lib.hid (below_then HB.out hb); clear hb)
      | (refine wpList_stm (ty := 48) (pre := []) (post := []) (xs := plC pl0) (ys := plC x) _ _ rfl rfl rfl rfl rpl_size (by rfl) (plC_len _) (plC_one _) rfl (by simp) (At.news w4 _ (plC pl0)) ?_; intro V A5 T5; rw [List.nil_append, List.append_nil] at A5; have hb := ((Below.refl _ w4).alloc (Nat.le_refl _) (.cells (plC pl0).toArray 48)).trans (T5.below (fun k hk => by unfold Just at hk; omega) (by simp)); have HX5 := Lib.hid (HX4.out.kept (Turned.of_below hb (Nat.le_refl _) NoBlock) (fun h => h)); have HY5 := Lib.hid A5; have HB := Lib.hid (below_then HB.out hb); clear A5 T5 hb))
    have l5 : ∀ W, Below V.heap.size V W → (op_ex (ldB 42) (.pointer (some ⟨w3.heap.size, 0, none⟩)) W).choose = .ok (.value (.agg (plC x).toArray)) W := fun W hW => ldPS_at (range_kept HX5.out.rng (hW.block _ HX5.out.lt))
    have l7 : ∀ W, Below V.heap.size V W → (op_ex (ldB 48) (.pointer (some ⟨w4.heap.size, 0, none⟩)) W).choose = .ok (.value (.agg (plC x).toArray)) W := fun W hW => ldPR_at (range_kept HY5.out.rng (hW.block _ HY5.out.lt))
    have eq : ∀ W : World, (Op.equalIn 10000 48 (.agg (plC x).toArray) (.agg (plC x).toArray)).run Try.prog W = .ok true W := fun W => by rw [run_eq_rpl 9996 x x W, decide_eq_true rfl]
    have bl := fun W => bs_at W x
    have S0 : Below V.heap.size V V := Below.refl _ _
    have S1 : Below V.heap.size V V.drew := S0.drew
    have SD : Below V.heap.size V (V.alloc (.cells (plC x).toArray 42)).drew := (S0.alloc (Nat.le_refl _) _).drew
    have RD := Lib.hid ((reads_pl V x).kept (Below.refl _ (V.alloc (.cells (plC x).toArray 42))).drew)
    have HSD := Lib.hid SD
    go_region_with (first
      | (go_at_call 12; (refine (ours_any _ _ _ [x] _ RD.out (by omega)).mono ?_); rintro e w6 ⟨B6, c6, rfl, hr, hb⟩; obtain ⟨g6, o6, rfl, hg6, hr6⟩ := hr.at_ (j := 0) (by omega); have l6 : ∀ W, Below w6.heap.size w6 W → (op_ex (ldB 48) (.pointer (some ⟨g6, o6, none⟩)) W).choose = .ok (.value (.agg (plC x).toArray)) W := (fun W hW => ldPR_at (range_kept (by rw [Nat.zero_mul, Nat.add_zero] at hr6; exact hr6) (hW.block _ hg6))); have S6 : Below w6.heap.size w6 w6 := Below.refl _ _; have S7 : Below V.heap.size V w6 := HSD.out.trans (hb.mono HSD.out.size); clear hr hb hr6))
    all_goals (try simp only [List.getElem_toArray, List.getElem_cons_succ, List.getElem_cons_zero])
    all_goals (try go_simp)
    all_goals
      have S8 : Below V.heap.size V w6 := by assumption
      have HB9 := Lib.hid (below_then HB.out S8)
      go_wp2
      go_ret
      exact ⟨by simp, HB9.out⟩
  · have hn' : ¬ (n : Int) ≤ 200 := by omega
    go_enter Try.func4, Try.ntmps4
    go_wp2_with (go_at_call 9; (refine AL.out.mono ?_); rintro e w1 ⟨rfl, hb⟩; have HB1 := Lib.hid hb; clear hb)
    go_ret
    exact ⟨rfl, HB1.out⟩
end Go.Proofs.Ytfpfcmgcfbkolaa
