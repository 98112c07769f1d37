/- The walk of ScanBlocks. -/
import Derived.Test.YtlbcebkllddhgaaScanAlive
import Derived.Test.YtlbcebkllddhgaaScanRef
import Derived.Test.YtlbcebkllddhgaaScanTheirs
namespace Go.Proofs.Ytlbcebkllddhgaa
open Go.RowKit Bm

attribute [local go_sem ↓] Go.wp_at_zero Go.wp_at_succ ldS_eq ldR_eq

set_option maxRecDepth 100000 in
set_option maxHeartbeats 4000000 in
theorem scanBlocks_walk (A : Option Addr) (n cap : Nat) (bs : List BlkM) (w : World) (hA : ReadsB w A n cap bs) : Calls Try.prog 4 #[.slice A n cap] w fun e w' => e = .returned (.bool true) ∧ Below w.heap.size w w' := by
  have HA := Lib.hid hA
  have hnm : (n : Int) ≤ 9223372036854775807 := by have := hA.le; have := hA.max; unfold maxLen at *; omega
  have AL := Lib.hid (alive6_any w)
  clear hA
  by_cases hn : n ≤ 70
  · have hn' : (n : Int) ≤ 70 := by omega
    go_enter Try.func4, Try.ntmps4
    go_wp2_with (first
      | (go_at_call 9; (refine AL.out.mono ?_); rintro e w1 ⟨rfl, hb⟩; have HB1 := Lib.hid hb; have HY1 := Lib.hid (HA.out.kept hb); clear hb)
      | (go_at_call 20; (refine (Theirs.any _ _ _ _ _ HY1.out (by omega)).mono ?_); rintro e w2 ⟨B2, c2, rfl, hr, hb⟩; have HX6 := Lib.hid hr; have HY6 := Lib.hid (HY1.out.kept hb); have HB2 := Lib.hid (below_then HB1.out hb); clear hr hb))
    go_loopw [14] (fun i wr => ∃ j : Nat, j ≤ n ∧ i = .int .i64 j ∧ Below w2.heap.size w2 wr) (fun i _ => n - (intOf i).toNat)
    case atStart => exact ⟨0, by omega, rfl, Below.refl _ _⟩
    case round =>
      obtain ⟨j, hj, rfl, hB⟩ := hrel
      by_cases hlt : j < n
      · obtain ⟨gx, ox, rfl, hgx, hrx⟩ := HX6.out.at_ hlt
        obtain ⟨gy, oy, rfl, hgy, hry⟩ := HY6.out.at_ hlt
        have HOK := Lib.hid (HX6.out.okN hlt)
        have HRX := Lib.hid hrx
        have HRY := Lib.hid hry
        have HGX := Lib.hid hgx
        have HGY := Lib.hid hgy
        obtain ⟨b, hb⟩ : ∃ b, b = bkN bs j := ⟨_, rfl⟩
        rw [← hb] at HOK HRX HRY
        have lx : ∀ W, Below w2.heap.size w2 W → (op_ex (ldB 43) (.pointer (some ⟨gx, ox + j * 66, none⟩)) W).choose = .ok (.value (.agg (bkC b).toArray)) W := fun W hW => ldS_at (range_kept HRX.out (hW.block gx HGX.out)) (bk_len HOK.out)
        have ly : ∀ W, Below w2.heap.size w2 W → (op_ex (ldB 48) (.pointer (some ⟨gy, oy + j * 66, none⟩)) W).choose = .ok (.value (.agg (bkC b).toArray)) W := fun W hW => ldR_at (range_kept HRY.out (hW.block gy HGY.out)) (bk_len HOK.out)
        have N1 := Lib.hid (fun W => snext_any b HOK.out W)
        have N2 := Lib.hid (fun W => rnext_any b HOK.out W)
        have E1 := Lib.hid (fun W => sempty_any b HOK.out W)
        have E2 := Lib.hid (fun W => rempty_any b HOK.out W)
        unfold bkV at N1 N2 E1 E2
        have i0 : (0 : Int) ≤ (j : Int) := by omega
        have i1 : (j : Int) < (n : Int) := by omega
        clear hrx hry hgx hgy hb
        go_wp2_with fail
        go_region_held3 (fun W => Below w2.heap.size w2 W) (first | assumption | exact hB.drew) (first
          | (go_at_call 16; (refine (N1.out _).mono ?_); rintro e v1 ⟨rfl, hb⟩; have S1 := Below.trans (by assumption) (hb.mono (Below.size (by assumption))); clear hb)
          | (go_at_call 17; (refine (N2.out _).mono ?_); rintro e v2 ⟨rfl, hb⟩; have S2 := S1.trans (hb.mono S1.size); clear hb)
          | (go_at_call 18; (refine (E1.out _).mono ?_); rintro e v3 ⟨rfl, hb⟩; have S3 := S2.trans (hb.mono S2.size); clear hb)
          | (go_at_call 19; (refine (E2.out _).mono ?_); rintro e v4 ⟨rfl, hb⟩; have S4 := S3.trans (hb.mono S3.size); clear hb))
        have S5 : Below w2.heap.size w2 v4 := by assumption
        have HS5 := Lib.hid S5
        go_wp2
        go_roundw
        case rel => exact ⟨j + 1, by omega, by go_num, HS5.out⟩
        case measure => simp [intOf]; omega
      · obtain rfl : j = n := by omega
        have HBB := Lib.hid hB
        go_wp2_with (first
          | (go_at_call 14; (refine (scounts_any _ _ _ _ _ (HX6.out.kept HBB.out) (by omega)).mono ?_); rintro e v1 ⟨rfl, hb⟩; have S1 := Lib.hid (HBB.out.trans (hb.mono HBB.out.size)); clear hb)
          | (go_at_call 15; (refine (rcounts_any _ _ _ _ _ (HY6.out.kept S1.out) (by omega)).mono ?_); rintro e v2 ⟨rfl, rfl⟩))
        go_ret
        exact ⟨by simp, below_then HB2.out S1.out⟩
  · have hn' : ¬ (n : Int) ≤ 70 := by omega
    go_enter Try.func4, Try.ntmps4
    go_wp2_with (go_at_call 9; (refine AL.out.mono ?_); rintro e w1 ⟨rfl, hb⟩; have HB1 := Lib.hid hb; clear hb)
    go_ret
    exact ⟨rfl, HB1.out⟩
end Go.Proofs.Ytlbcebkllddhgaa
