/- The walk of LatestTells. -/
import Derived.Test.YtfpfcmgcfbkolaaLatAlive
namespace Go.Proofs.Ytfpfcmgcfbkolaa
open Go.RowKit Bm

set_option maxRecDepth 100000 in
set_option maxHeartbeats 4000000 in
theorem latestTells_walk (A : Option Addr) (n cap : Nat) (bs : List BlkM) (a1 : Int) (_b1 : (Lit.int .i64 a1).wf = true) (w : World) (hA : ReadsB w A n cap bs) : Calls Try.prog 3 #[.slice A n cap, .int .i64 a1] w fun e w' => e = .returned (.bool true) ∧ Below w.heap.size w w' := by
  have HA := Lib.hid hA
  have hnm : (n : Int) ≤ 9223372036854775807 := by have := hA.le; have := hA.max; unfold maxLen at *; omega
  have AL := Lib.hid (alive7_any w)
  have hlen := hA.len
  clear hA
  by_cases hn : n ≤ 12
  · have hn' : (n : Int) ≤ 12 := by omega
    have hc := cnt_len bs
    have ho := of_len (cnt bs)
    have HOL : Hid ((lOf (cnt bs)).length ≤ 1000) := Lib.hid (by omega)
    have HNL : Hid ((lNeeded (cnt bs) a1).length ≤ 1000) := Lib.hid (by have := needed_len (cnt bs) a1; omega)
    clear hc ho hlen
    go_enter Try.func3, Try.ntmps3
    go_wp2_with (first
      | (go_at_call 9; (refine AL.out.mono ?_); rintro e w1 ⟨rfl, hb⟩; have HB := Lib.hid hb; have HL := Lib.hid (HA.out.kept hb); clear hb)
      | (go_at_call 10; (refine (Theirs.any _ _ _ _ _ HL.out (by omega)).mono ?_); rintro e w2 ⟨B2, c2, rfl, hr, hb⟩; have HX := Lib.hid hr; have HL := Lib.hid (HL.out.kept hb); have HB := Lib.hid (below_then HB.out hb); clear hr hb)
      | (go_at_call 13; (refine (lof_any _ _ _ _ _ HX.out (by omega)).mono ?_); rintro e w3 ⟨B3, c3, rfl, hr, hb⟩; have HP := Lib.hid hr; have HX := Lib.hid (HX.out.kept hb); have HL := Lib.hid (HL.out.kept hb); have HB := Lib.hid (below_then HB.out hb); clear hr hb)
      | (go_at_call 12; (refine (ours_any _ _ _ _ _ HP.out (by have := HOL.out; have := HNL.out; omega)).mono ?_); rintro e w4 ⟨B4, c4, rfl, hr, hb⟩; have HQ := Lib.hid hr; have HX := Lib.hid (HX.out.kept hb); have HL := Lib.hid (HL.out.kept hb); have HB := Lib.hid (below_then HB.out hb); clear hr hb)
      | (go_at_call 14; (refine (rlof_any _ _ _ _ _ HL.out (by omega)).mono ?_); rintro e w5 ⟨B5, c5, rfl, hr, hb⟩; have HR := Lib.hid hr; have HQ := Lib.hid (HQ.out.kept hb); have HX := Lib.hid (HX.out.kept hb); have HL := Lib.hid (HL.out.kept hb); have HB := Lib.hid (below_then HB.out hb); clear hr hb)
      | (go_at_call 11; (refine (rlsame_any _ _ _ _ _ _ _ _ _ HQ.out HR.out (by have := HOL.out; have := HNL.out; omega) (by have := HOL.out; have := HNL.out; omega)).mono ?_); rintro e w6 ⟨rfl, hb⟩; rw [decide_eq_true rfl]; have HX := Lib.hid (HX.out.kept hb); have HL := Lib.hid (HL.out.kept hb); have HB := Lib.hid (below_then HB.out hb); clear hb)
      | (go_at_call 15; (refine (lneeded_any _ _ _ _ _ _ HX.out (by omega)).mono ?_); rintro e w7 ⟨B7, c7, rfl, hr, hb⟩; have HP := Lib.hid hr; have HX := Lib.hid (HX.out.kept hb); have HL := Lib.hid (HL.out.kept hb); have HB := Lib.hid (below_then HB.out hb); clear hr hb)
      | (go_at_call 16; (refine (rlneeded_any _ _ _ _ _ _ HL.out (by omega)).mono ?_); rintro e w8 ⟨B8, c8, rfl, hr, hb⟩; have HR := Lib.hid hr; have HQ := Lib.hid (HQ.out.kept hb); have HX := Lib.hid (HX.out.kept hb); have HL := Lib.hid (HL.out.kept hb); have HB := Lib.hid (below_then HB.out hb); clear hr hb)
      | (go_at_call 17; (refine (ltop_any _ _ _ _ _ HX.out (by omega)).mono ?_); rintro e w9 ⟨rfl, hb⟩; have HL := Lib.hid (HL.out.kept hb); have HB := Lib.hid (below_then HB.out hb); clear hb)
      | (go_at_call 18; (refine (rltop_any _ _ _ _ _ HL.out (by omega)).mono ?_); rintro e w10 ⟨rfl, hb⟩; have HB := Lib.hid (below_then HB.out hb); clear hb))
    go_ret
    exact ⟨by simp, HB.out⟩
  · have hn' : ¬ (n : Int) ≤ 12 := by omega
    go_enter Try.func3, Try.ntmps3
    go_wp2_with (go_at_call 9; (refine AL.out.mono ?_); rintro e w1 ⟨rfl, hb⟩; have HB1 := Lib.hid hb; clear hb)
    go_ret
    exact ⟨rfl, HB1.out⟩
end Go.Proofs.Ytfpfcmgcfbkolaa
