/- The walk of layer driver's statement DriverErases. -/
import Derived.Test.YtfckgfimmoinmaaDrvWalk3
import Derived.Test.YtfckgfimmoinmaaDrvEraseF
import Derived.Test.YtfckgfimmoinmaaLaw
import Derived.OpenShut
import Derived.BigQuiet
namespace Go.Proofs.Ytfckgfimmoinmaa
open Go.RowKit Bm

set_option maxRecDepth 100000 in
set_option maxHeartbeats 8000000 in
theorem driverErases_walk (a0 : Int) (b0 : (Lit.int .u8 a0).wf = true) (a1 : Int) (b1 : (Lit.int .u8 a1).wf = true) (A : Option Addr) (n cap : Nat) (xs : List (BitVec 32)) (w : World) (hr : ReadsU w A n cap xs) :
    Calls Try.prog 8 #[.int .u8 a0, .int .u8 a1, .slice A n cap] w fun e w' => e = .returned (.bool true) ∧ Below w.heap.size w w' := by
  have c0 := bounds_u8 b0
  have c1 := bounds_u8 b1
  have hle := hr.le
  have hmx := hr.max
  unfold maxLen at hmx
  clear b0 b1
  by_cases hn : 10 < n
  · go_enter Try.func8, Try.ntmps8
    go_wp2_with fail
    refine (alive5_any w).mono ?_
    rintro e wa ⟨rfl, hBa⟩
    go_wp2
    go_ret
    exact ⟨rfl, hBa⟩
  have hn1 : n ≤ 10 := by omega
  clear hn
  obtain ⟨k, hk⟩ : ∃ k : Nat, a0 % 4 = (k : Int) := ⟨(a0 % 4).toNat, by omega⟩
  obtain ⟨b, hb⟩ : ∃ b : Nat, a1 % 2 = (b : Int) := ⟨(a1 % 2).toNat, by omega⟩
  have hk1 : k < 4 := by omega
  have hb1 : b < 2 := by omega
  obtain ⟨d1, d2, e1, e2, f1, t1, EP⟩ := erP_begin k b xs hk1 hb1 (by rw [hr.len]; exact hn1)
  have LX := Lib.hid hr.len
  rw [LX.out] at t1
  have E1 := Lib.hid e1
  have E2 := Lib.hid e2
  have F1 := Lib.hid f1
  have T1 := Lib.hid t1
  have P0 := Lib.hid EP
  have tb : d2.t = 6 * (n : Int) := by rw [EP.t, LX.out]; simp
  have TB := Lib.hid tb
  have HR := Lib.hid hr
  clear e1 e2 f1 t1 EP tb hr
  go_enter Try.func8, Try.ntmps8
  go_wp2_with fail
  refine (alive5_any w).mono ?_
  rintro e wa ⟨rfl, hBa⟩
  have BA := Lib.hid hBa
  clear hBa
  go_wp2_with fail
  refine (begin5_any w.heap.size 2 (k : Int) wa BA.out.size (by omega) (by omega) (by omega) (by omega)).mono ?_
  rintro e w1 ⟨p, f, q, rfl, s0, t1⟩
  have S0 := Lib.hid s0
  have B0 := Lib.hid (BA.out.trans t1)
  have OK0 := Lib.hid (drvNew_ok 2 (k : Int) (by omega) (by omega) (by omega) (by omega))
  clear s0 t1
  go_wp2_with fail
  refine (S0.out.program OK0.out 0 A n cap xs (HR.out.kept B0.out) (by omega) (by omega) (by omega) (by simp) (by simp) (reads_out HR.out)).mono ?_
  rw [E1.out]
  rintro e w2 ⟨rfl, s1, t1⟩
  have S1 : Hid (Dv _ _ _ _ _ _ d1 _) := Lib.hid s1
  have B1 := Lib.hid (B0.out.trans (may_below t1 S0.out.size))
  clear s1 t1
  go_wp2_with fail
  refine (S1.out.program F1.out.ok 64 A n cap xs (HR.out.kept B1.out) (by omega) (by omega) (by omega) (by rw [T1.out]; omega) (by rw [T1.out]; omega) (reads_out HR.out)).mono ?_
  rw [E2.out]
  rintro e w3 ⟨rfl, s2, t2⟩
  have S2 : Hid (Dv _ _ _ _ _ _ d2 _) := Lib.hid s2
  have B2 := Lib.hid (B1.out.trans (may_below t2 S1.out.size))
  clear s2 t2
  go_wp2_with fail
  refine (S2.out.ticks P0.out.fit.ok).mono ?_
  rw [TB.out]
  rintro e w4 ⟨rfl, b3⟩
  have S3 := Lib.hid (S2.out.below b3)
  have B3 := Lib.hid (B2.out.trans (b3.mono B2.out.size))
  clear b3
  have wr1 : IntKind.i64.wrap (20 * (k : Int)) = 20 * (k : Int) := by rw [IntKind.wrap_i64]; omega
  have wr2 : IntKind.i64.wrap (6 * (n : Int) + 20 * (k : Int)) = 6 * (n : Int) + 20 * (k : Int) := by rw [IntKind.wrap_i64]; omega
  have wr3 : IntKind.i64.wrap (6 * (n : Int) + 20 * (k : Int) + 20) = 6 * (n : Int) + 20 * (k : Int) + 20 := by rw [IntKind.wrap_i64]; omega
  clear c0 c1
  go_wp2
  go_loopw [50] (fun i wr => ∃ (j : Nat) (d : DrvM), j ≤ k ∧ i = .int .i64 j ∧ ErP k b xs j d ∧ Dv w.heap.size p f q 2 NoBlock d wr ∧ Below w.heap.size w wr) (fun i _ => k - (intOf i).toNat)
  case atStart => exact ⟨0, d2, by omega, rfl, P0.out, S3.out, B3.out⟩
  case round =>
    obtain ⟨j, d, hj, rfl, ep, s, hbl⟩ := hrel
    have EJ := Lib.hid ep
    have S := Lib.hid s
    have BJ := Lib.hid hbl
    have et : d.t = 6 * (n : Int) + 20 * (j : Int) := by rw [ep.t, LX.out]
    have ET := Lib.hid et
    clear ep s hbl et
    by_cases hlt : j < k
    · have j1 : (j : Int) < (k : Int) := by omega
      obtain ⟨e5, ep5⟩ := EJ.out.step hlt hb1 (by rw [LX.out]; exact hn1)
      have E5 := Lib.hid e5
      have EP5 := Lib.hid ep5
      clear e5 ep5
      go_wp2_with (go_at_call 15; (refine (S.out.erase EJ.out.fit.ok (b : Int) (by omega) (by omega) (by rw [ET.out]; omega) (by rw [ET.out]; omega)).mono ?_); rw [E5.out]; rintro e w5 ⟨rfl, s5, t5⟩; have S5 : Hid (Dv _ _ _ _ _ _ (eraseD d b) _) := Lib.hid s5; have B5 := Lib.hid (BJ.out.trans (may_below t5 S.out.size)); clear s5 t5)
      go_roundw
      case rel => exact ⟨j + 1, eraseD d b, by omega, by go_num, EP5.out, S5.out, B5.out⟩
      case measure => simp [intOf]; omega
    · obtain rfl : j = k := by omega
      obtain ⟨d', e6, f6, t6, c6⟩ := EJ.out.last hb1
      have E6 := Lib.hid e6
      have F6 := Lib.hid f6
      have T6 : Hid (d'.t = 6 * (n : Int) + 20 * (j : Int) + 20) := Lib.hid (by rw [t6, ET.out])
      have C6 := Lib.hid c6
      have WB : Hid (mWear d'.f.chip (b : Int) = (j : Int)) := Lib.hid (by
        rw [c6]
        unfold mWear
        rw [if_neg (by omega)]
        exact EJ.out.wear)
      clear e6 f6 t6 c6
      go_wp2_with (first
        | (go_at_call 34; (refine (S8.out.st.st.wear F6.out.ok.ok (b : Int)).mono ?_); rw [WB.out]; rintro e w9 ⟨rfl, rfl⟩)
        | (go_at_call 30; (refine (S7.out.ticks F6.out.ok).mono ?_); rw [T6.out]; rintro e w8 ⟨rfl, b8⟩; have S8 := Lib.hid (S7.out.below b8); have B8 := Lib.hid (B7.out.trans (b8.mono B7.out.size)); clear b8)
        | (go_at_call 15; (refine (S6.out.erase EJ.out.fit.ok (b : Int) (by omega) (by omega) (by rw [ET.out]; omega) (by rw [ET.out]; omega)).mono ?_); rw [E6.out]; rintro e w7 ⟨rfl, s7, t7⟩; have S7 : Hid (Dv _ _ _ _ _ _ d' _) := Lib.hid s7; have B7 := Lib.hid (B6.out.trans (may_below t7 S6.out.size)); clear s7 t7)
        | (go_at_call 30; (refine (S.out.ticks EJ.out.fit.ok).mono ?_); rw [ET.out]; rintro e w6 ⟨rfl, b6⟩; have S6 := Lib.hid (S.out.below b6); have B6 := Lib.hid (BJ.out.trans (b6.mono BJ.out.size)); clear b6)
        | (go_at_call 31; (refine (S8.out.wordsAt F6.out.ok 128 F6.out.len).mono ?_); rintro e w9 ⟨g, cg, rfl, hcell, hcap, hmax, b9⟩; rw [C6.out] at hcell; have HC := Lib.hid hcell; have B9 := Lib.hid (B8.out.trans (b9.mono B8.out.size)); clear hcell b9))
      clear hj hlt hk hb
      by_cases hj0 : j = 0
      · subst hj0
        simp only [show ((0 : Nat) : Int) = 0 from rfl]
        go_loopw [91] (fun i' wr' => ∃ i c : Nat, i ≤ n ∧ i' = .int .i64 i ∧ wr' = w9.drewN c) (fun i' _ => n - (intOf i').toNat)
        case atStart => exact ⟨0, 0, by omega, rfl, rfl⟩
        case round =>
          obtain ⟨i, c, hi, rfl, rfl⟩ := hrel
          by_cases hlt : i < n
          · obtain ⟨xa, rfl, hxc⟩ := (HR.out.kept B9.out).at_ hlt
            have i0 : (0 : Int) ≤ (i : Int) := by omega
            have i1 : (i : Int) < (n : Int) := by omega
            have gx := HC.out (64 * b + i) (by omega)
            have gy := HC.out (64 * (1 - b) + i) (by omega)
            rw [EJ.out.here i (by rw [LX.out]; exact hlt)] at gx
            rw [EJ.out.there i (by rw [LX.out]; exact hlt)] at gy
            have e1b : (1 : Int) - (b : Int) = ((1 - b : Nat) : Int) := by omega
            have n1 : (64 * (b : Int) + (i : Int)).toNat = 64 * b + i := by omega
            have n2 : (64 * ((1 - b : Nat) : Int) + (i : Int)).toNat = 64 * (1 - b) + i := by omega
            have r1 : (0 : Int) ≤ 64 * (b : Int) + (i : Int) ∧ 64 * (b : Int) + (i : Int) < 128 := by omega
            have r2 : (0 : Int) ≤ 64 * ((1 - b : Nat) : Int) + (i : Int) ∧ 64 * ((1 - b : Nat) : Int) + (i : Int) < 128 := by omega
            obtain ⟨r1a, r1b⟩ := r1
            obtain ⟨r2a, r2b⟩ := r2
            rw [if_pos rfl] at gx
            go_wp2_with fail
            go_quiet (fail)
            go_wp2
            go_roundw
            case rel => exact ⟨i + 1, _, by omega, by go_num, rfl⟩
            case measure => simp [intOf]; omega
          · obtain rfl : i = n := by omega
            go_wp2
            go_ret
            exact ⟨rfl, B9.out.trans (below_drewN _ _ _)⟩
      · go_loopw [91] (fun i' wr' => ∃ i c : Nat, i ≤ n ∧ i' = .int .i64 i ∧ wr' = w9.drewN c) (fun i' _ => n - (intOf i').toNat)
        case atStart => exact ⟨0, 0, by omega, rfl, rfl⟩
        case round =>
          obtain ⟨i, c, hi, rfl, rfl⟩ := hrel
          by_cases hlt : i < n
          · obtain ⟨xa, rfl, hxc⟩ := (HR.out.kept B9.out).at_ hlt
            have i0 : (0 : Int) ≤ (i : Int) := by omega
            have i1 : (i : Int) < (n : Int) := by omega
            have gx := HC.out (64 * b + i) (by omega)
            have gy := HC.out (64 * (1 - b) + i) (by omega)
            rw [EJ.out.here i (by rw [LX.out]; exact hlt)] at gx
            rw [EJ.out.there i (by rw [LX.out]; exact hlt)] at gy
            have e1b : (1 : Int) - (b : Int) = ((1 - b : Nat) : Int) := by omega
            have n1 : (64 * (b : Int) + (i : Int)).toNat = 64 * b + i := by omega
            have n2 : (64 * ((1 - b : Nat) : Int) + (i : Int)).toNat = 64 * (1 - b) + i := by omega
            have r1 : (0 : Int) ≤ 64 * (b : Int) + (i : Int) ∧ 64 * (b : Int) + (i : Int) < 128 := by omega
            have r2 : (0 : Int) ≤ 64 * ((1 - b : Nat) : Int) + (i : Int) ∧ 64 * ((1 - b : Nat) : Int) + (i : Int) < 128 := by omega
            obtain ⟨r1a, r1b⟩ := r1
            obtain ⟨r2a, r2b⟩ := r2
            have j0 : (0 : Int) < (j : Int) := by omega
            have j2 : ((j : Int) == 0) = false := by rw [beq_eq_false_iff_ne]; omega
            rw [if_neg hj0] at gx
            have gx2 : w9.cell? ⟨g, 64 * b + i, none⟩ = some (.int .u32 4294967295) := gx
            clear gx
            go_wp2_with fail
            go_quiet (fail)
            go_wp2
            go_roundw
            case rel => exact ⟨i + 1, _, by omega, by go_num, rfl⟩
            case measure => simp [intOf]; omega
          · obtain rfl : i = n := by omega
            go_wp2
            go_ret
            exact ⟨rfl, B9.out.trans (below_drewN _ _ _)⟩
end Go.Proofs.Ytfckgfimmoinmaa
