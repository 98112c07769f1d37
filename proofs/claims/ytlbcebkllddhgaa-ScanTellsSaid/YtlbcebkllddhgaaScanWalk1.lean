/- The walk of ScanTells. -/
import Derived.Test.YtlbcebkllddhgaaScanAlive
import Derived.Test.YtlbcebkllddhgaaScanRef3
import Derived.Test.YtlbcebkllddhgaaScanSame
import Derived.Test.YtlbcebkllddhgaaScanOurs
namespace Go.Proofs.Ytlbcebkllddhgaa
open Go.RowKit Bm

attribute [local go_sem ↓] Go.wp_at_zero Go.wp_at_succ ldS_eq ldR_eq

set_option maxRecDepth 100000 in
set_option maxHeartbeats 4000000 in
theorem scanTells_walk (A : Option Addr) (n cap : Nat) (xs : List (BitVec 32)) (w : World) (hA : ReadsU w A n cap xs) : Calls Try.prog 3 #[.slice A n cap] w fun e w' => e = .returned (.bool true) ∧ Below w.heap.size w w' := by
  have HA := Lib.hid hA
  have hnm : (n : Int) ≤ 9223372036854775807 := by have := hA.le; have := hA.max; unfold maxLen at *; omega
  have AL := Lib.hid (alive6_any w)
  clear hA
  by_cases hn : n ≤ 512
  · obtain ⟨bs, hbs⟩ : ∃ bs, bs = (scOf xs).1 := ⟨_, rfl⟩
    obtain ⟨er, her⟩ : ∃ er, er = (scOf xs).2 := ⟨_, rfl⟩
    have hlen : bs.length ≤ 64 := by
      rw [hbs]
      unfold scOf
      split
      · rename_i h
        rw [List.length_map, List.length_range]
        exact h.2.2
      · simp
    have SW := fun W (h : ReadsU W A n cap xs) => swords_any A n cap xs W h
    have RWD := fun W (h : ReadsU W A n cap xs) => rwordsB_any A n cap xs W h
    rw [← hbs, ← her] at SW RWD
    obtain ⟨m, hm⟩ : ∃ m, m = bs.length := ⟨_, rfl⟩
    rw [← hm] at SW RWD hlen
    have HSW := Lib.hid SW
    have HRW := Lib.hid RWD
    have HM := Lib.hid hm
    clear SW RWD hbs her hm
    have hn' : (n : Int) ≤ 512 := by omega
    go_enter Try.func3, Try.ntmps3
    go_wp2_with (first
      | (go_at_call 9; (refine AL.out.mono ?_); rintro e w1 ⟨rfl, hb⟩; have HB1 := Lib.hid hb; clear hb)
      | (go_at_call 10; (refine (HSW.out _ (HA.out.kept HB1.out)).mono ?_); rintro e w2 ⟨B2, c2, rfl, hr, hb⟩; have HR2 := Lib.hid hr; have HB2 := Lib.hid (below_then HB1.out hb); clear hr hb)
      | (go_at_call 11; (refine (HRW.out _ (HA.out.kept HB2.out)).mono ?_); rintro e w3 ⟨B3, c3, rfl, hr, hb⟩; have HR3 := Lib.hid hr; have HX3 := Lib.hid (HR2.out.kept hb); have HB3 := Lib.hid (below_then HB2.out hb); clear hr hb)
      | (go_at_call 13; (refine (Ours.any _ _ _ _ _ HX3.out (by omega)).mono ?_); rintro e w4 ⟨B4, c4, rfl, hr, hb⟩; have HR4 := Lib.hid hr; have HX4 := Lib.hid (HX3.out.kept hb); have HY4 := Lib.hid (HR3.out.kept hb); have HB4 := Lib.hid (below_then HB3.out hb); clear hr hb)
      | (go_at_call 12; (refine (rsame_any _ _ _ _ _ _ _ _ _ HR4.out HY4.out (by omega) (by omega)).mono ?_); rintro e w5 ⟨rfl, _, hb⟩; rw [decide_eq_true rfl]; have HX5 := Lib.hid (HX4.out.kept hb); have HY5 := Lib.hid (HY4.out.kept hb); have HB5 := Lib.hid (below_then HB4.out hb); clear hb)
      | (go_at_call 14; (refine (scounts_any _ _ _ _ _ HX5.out (by omega)).mono ?_); rintro e w6 ⟨rfl, hb⟩; have HX6 := Lib.hid (HX5.out.kept hb); have HY6 := Lib.hid (HY5.out.kept hb); have HB6 := Lib.hid (below_then HB5.out hb); clear hb)
      | (go_at_call 15; (refine (rcounts_any _ _ _ _ _ HY6.out (by omega)).mono ?_); rintro e w7 ⟨rfl, rfl⟩))
    go_loopw [42] (fun i wr => ∃ j : Nat, j ≤ m ∧ i = .int .i64 j ∧ Below w7.heap.size w7 wr) (fun i _ => m - (intOf i).toNat)
    case atStart => exact ⟨0, by omega, rfl, Below.refl _ _⟩
    case round =>
      obtain ⟨j, hj, rfl, hB⟩ := hrel
      by_cases hlt : j < m
      · obtain ⟨gx, ox, rfl, hgx, hrx⟩ := HX6.out.at_ hlt
        obtain ⟨gy, oy, rfl, hgy, hry⟩ := HY6.out.at_ hlt
        have HOK := Lib.hid (HX6.out.okN hlt)
        have HRX := Lib.hid hrx
        have HRY := Lib.hid hry
        have HGX := Lib.hid hgx
        have HGY := Lib.hid hgy
        obtain ⟨b, hb⟩ : ∃ b, b = bkN bs j := ⟨_, rfl⟩
        rw [← hb] at HOK HRX HRY
        have lx : ∀ W, Below w7.heap.size w7 W → (op_ex (ldB 43) (.pointer (some ⟨gx, ox + j * 66, none⟩)) W).choose = .ok (.value (.agg (bkC b).toArray)) W := fun W hW => ldS_at (range_kept HRX.out (hW.block gx HGX.out)) (bk_len HOK.out)
        have ly : ∀ W, Below w7.heap.size w7 W → (op_ex (ldB 48) (.pointer (some ⟨gy, oy + j * 66, none⟩)) W).choose = .ok (.value (.agg (bkC b).toArray)) W := fun W hW => ldR_at (range_kept HRY.out (hW.block gy HGY.out)) (bk_len HOK.out)
        have N1 := Lib.hid (fun W => snext_any b HOK.out W)
        have N2 := Lib.hid (fun W => rnext_any b HOK.out W)
        have E1 := Lib.hid (fun W => sempty_any b HOK.out W)
        have E2 := Lib.hid (fun W => rempty_any b HOK.out W)
        unfold bkV at N1 N2 E1 E2
        have i0 : (0 : Int) ≤ (j : Int) := by omega
        have i1 : (j : Int) < (m : Int) := by omega
        clear hrx hry hgx hgy hb
        go_wp2_with fail
        go_region_held3 (fun W => Below w7.heap.size w7 W) (first | assumption | exact hB.drew) (first
          | (go_at_call 16; (refine (N1.out _).mono ?_); rintro e v1 ⟨rfl, hb⟩; have S1 := Below.trans (by assumption) (hb.mono (Below.size (by assumption))); clear hb)
          | (go_at_call 17; (refine (N2.out _).mono ?_); rintro e v2 ⟨rfl, hb⟩; have S2 := S1.trans (hb.mono S1.size); clear hb)
          | (go_at_call 18; (refine (E1.out _).mono ?_); rintro e v3 ⟨rfl, hb⟩; have S3 := S2.trans (hb.mono S2.size); clear hb)
          | (go_at_call 19; (refine (E2.out _).mono ?_); rintro e v4 ⟨rfl, hb⟩; have S4 := S3.trans (hb.mono S3.size); clear hb))
        have S5 : Below w7.heap.size w7 v4 := by assumption
        have HS5 := Lib.hid S5
        go_wp2
        go_roundw
        case rel => exact ⟨j + 1, by omega, by go_num, HS5.out⟩
        case measure => simp [intOf]; omega
      · obtain rfl : j = m := by omega
        go_wp2
        go_ret
        exact ⟨rfl, below_then HB6.out hB⟩
  · have hn' : ¬ (n : Int) ≤ 512 := by omega
    go_enter Try.func3, Try.ntmps3
    go_wp2_with (go_at_call 9; (refine AL.out.mono ?_); rintro e w1 ⟨rfl, hb⟩; have HB1 := Lib.hid hb; clear hb)
    go_ret
    exact ⟨rfl, HB1.out⟩
end Go.Proofs.Ytlbcebkllddhgaa
