/- The walk of layer driver's statement DriverLocks. -/
import Derived.Test.YtfckgfimmoinmaaDrvAlive
import Derived.Test.YtfckgfimmoinmaaDrvLockF
import Derived.Test.YtfckgfimmoinmaaLaw
import Derived.OpenShut
namespace Go.Proofs.Ytfckgfimmoinmaa
open Go.RowKit Bm

theorem Dv.wordsAt {B p f q k : Nat} {K : Nat → Prop} {d : DrvM} {w : World} (s : Dv B p f q k K d w) (ok : DrvOk k d) (n : Nat) (hn : d.f.chip.ws.length = n) :
    Calls Try.prog 31 #[.pointer (some ⟨p, 0, none⟩)] w (WordsAt d.f.chip.ws n w) := s.st.st.wordsAt ok.ok n hn
theorem Dv.wear {B p f q k : Nat} {K : Nat → Prop} {d : DrvM} {w : World} (s : Dv B p f q k K d w) (ok : DrvOk k d) (b : Int) :
    Calls Try.prog 34 #[.pointer (some ⟨p, 0, none⟩), .int .i64 b] w fun e w' => e = .returned (.int .i64 (mWear d.f.chip b)) ∧ w' = w := s.st.st.wear ok.ok b

set_option maxRecDepth 100000 in
set_option maxHeartbeats 4000000 in
theorem driverLocks_walk (a0 : Int) (b0 : (Lit.int .u8 a0).wf = true) (a1 : Int) (b1 : (Lit.int .u8 a1).wf = true) (a2 : Int) (b2 : (Lit.int .u32 a2).wf = true) (w : World) :
    Calls Try.prog 6 #[.int .u8 a0, .int .u8 a1, .int .u32 a2] w fun e w' => e = .returned (.bool true) ∧ Below w.heap.size w w' := by
  have c0 := bounds_u8 b0
  have c1 := bounds_u8 b1
  have c2 := bounds_u32 b2
  obtain ⟨v, rfl⟩ := U_of (a := a2) c2.1 (by omega)
  obtain ⟨a, ha⟩ : ∃ a : Nat, a0 % 3 = (a : Int) := ⟨(a0 % 3).toNat, by omega⟩
  obtain ⟨b, hb⟩ : ∃ b : Nat, a1 % 3 = (b : Int) := ⟨(a1 % 3).toNat, by omega⟩
  have ha3 : a < 3 := by omega
  have hb3 : b < 3 := by omega
  obtain ⟨wn, hwn⟩ : ∃ wn : Int, wn = if a = b then 6 else 0 := ⟨_, rfl⟩
  obtain ⟨d1, d2, d3, d4, d5, d6, F⟩ := lockF a b v ha3 hb3
  rw [← hwn] at F
  have FF := Lib.hid F
  have hwe : ((a : Int) == (b : Int)) = decide (a = b) := by
    by_cases h : a = b
    · subst h; simp
    · rw [decide_eq_false h, beq_eq_false_iff_ne]; omega
  clear F b0 b1 b2 c2
  by_cases hab : a = b
  · rw [if_pos hab] at hwn
    subst hwn
    rw [decide_eq_true hab] at hwe
    clear hab
    have hidx : (64 * (a : Int)).toNat = 64 * a := by omega
    have i0 : (0 : Int) ≤ 64 * (a : Int) := by omega
    have i1 : 64 * (a : Int) < 192 := by omega
    go_enter Try.func6, Try.ntmps6
    go_wp2_with fail
    refine (alive5_any w).mono ?_
    rintro e wa ⟨rfl, hBa⟩
    have BA := Lib.hid hBa
    clear hBa
    go_wp2_with fail
    refine (begin5_any w.heap.size 3 5 wa BA.out.size (by omega) (by omega) (by omega) (by omega)).mono ?_
    rintro e w1 ⟨p, f, q, rfl, s0, t1⟩
    have S0 := Lib.hid s0
    have B0 := Lib.hid (BA.out.trans t1)
    have OK0 := Lib.hid (drvNew_ok 3 5 (by omega) (by omega) (by omega) (by omega))
    clear s0 t1
    go_wp2_with (first
      | (go_at_call 34; (refine (S7.out.wear FF.out.f6.ok a).mono ?_); rw [FF.out.w6]; rintro e w8 ⟨rfl, rfl⟩)
      | (go_at_call 15; (refine (S7w.out.erase FF.out.f5.ok a (by omega) (by omega) FF.out.t5.1 (by have := FF.out.t5.2; omega)).mono ?_); rw [FF.out.e6]; rintro e w7 ⟨rfl, s7, t7⟩; have S7 : Hid (Dv _ _ _ _ _ _ d6 _) := Lib.hid s7; have B7 := Lib.hid (B7w.out.trans (may_below t7 S7w.out.size)); clear s7 t7)
      | (go_at_call 31; (refine (S6.out.wordsAt FF.out.f5.ok 192 FF.out.f5.len).mono ?_); rintro e w6w ⟨g, cg, rfl, hcell, hcap, hmax, b6⟩; have g0 := hcell (64 * a) (by omega); rw [FF.out.w5] at g0; have S7w := Lib.hid (S6.out.below b6); have B7w := Lib.hid (B6.out.trans (b6.mono B6.out.size)); clear hcell b6)
      | (go_at_call 28; (refine (S5.out.programNew FF.out.f4.ok (64 * (a : Int)) [v] (by simp) (by omega) (by omega) FF.out.t4.1 (by have := FF.out.t4.2; omega)).mono ?_); rw [FF.out.e5]; rintro e w6 ⟨rfl, s6, t6⟩; have S6 : Hid (Dv _ _ _ _ _ _ d5 _) := Lib.hid s6; have B6 := Lib.hid (B5.out.trans (may_below t6 S5.out.size)); clear s6 t6)
      | (go_at_call 34; (refine (S5.out.wear FF.out.f4.ok a).mono ?_); rw [FF.out.w4]; rintro e w5' ⟨rfl, rfl⟩)
      | (go_at_call 20; (refine (S4.out.lock FF.out.f3.ok a false (by omega) (by omega)).mono ?_); rw [FF.out.e4]; rintro e w5 ⟨rfl, s5, t5⟩; have S5 : Hid (Dv _ _ _ _ _ _ d4 _) := Lib.hid s5; have B5 := Lib.hid (B4.out.trans (may_below t5 S4.out.size)); clear s5 t5)
      | (go_at_call 15; (refine (S3.out.erase FF.out.f2.ok b (by omega) (by omega) FF.out.t2.1 (by have := FF.out.t2.2; omega)).mono ?_); rw [FF.out.e3]; rintro e w4 ⟨rfl, s4, t4⟩; have S4 : Hid (Dv _ _ _ _ _ _ d3 _) := Lib.hid s4; have B4 := Lib.hid (B3.out.trans (may_below t4 S3.out.size)); clear s4 t4)
      | (go_at_call 28; (refine (S2.out.programNew FF.out.f1.ok (64 * (b : Int)) [v] (by simp) (by omega) (by omega) FF.out.t1.1 (by have := FF.out.t1.2; omega)).mono ?_); rw [FF.out.e2]; rintro e w3 ⟨rfl, s3, t3⟩; have S3 : Hid (Dv _ _ _ _ _ _ d2 _) := Lib.hid s3; have B3 := Lib.hid (B2.out.trans (may_below t3 S2.out.size)); clear s3 t3)
      | (go_at_call 20; (refine (S0.out.lock OK0.out a true (by omega) (by omega)).mono ?_); rw [FF.out.e1]; rintro e w2 ⟨rfl, s2, t2⟩; have S2 : Hid (Dv _ _ _ _ _ _ d1 _) := Lib.hid s2; have B2 := Lib.hid (B0.out.trans (may_below t2 S0.out.size)); clear s2 t2))
    go_ret
    exact ⟨rfl, B7.out⟩
  · rw [if_neg hab] at hwn
    subst hwn
    rw [decide_eq_false hab] at hwe
    clear hab
    have hidx : (64 * (a : Int)).toNat = 64 * a := by omega
    have i0 : (0 : Int) ≤ 64 * (a : Int) := by omega
    have i1 : 64 * (a : Int) < 192 := by omega
    go_enter Try.func6, Try.ntmps6
    go_wp2_with fail
    refine (alive5_any w).mono ?_
    rintro e wa ⟨rfl, hBa⟩
    have BA := Lib.hid hBa
    clear hBa
    go_wp2_with fail
    refine (begin5_any w.heap.size 3 5 wa BA.out.size (by omega) (by omega) (by omega) (by omega)).mono ?_
    rintro e w1 ⟨p, f, q, rfl, s0, t1⟩
    have S0 := Lib.hid s0
    have B0 := Lib.hid (BA.out.trans t1)
    have OK0 := Lib.hid (drvNew_ok 3 5 (by omega) (by omega) (by omega) (by omega))
    clear s0 t1
    go_wp2_with (first
      | (go_at_call 34; (refine (S7.out.wear FF.out.f6.ok a).mono ?_); rw [FF.out.w6]; rintro e w8 ⟨rfl, rfl⟩)
      | (go_at_call 15; (refine (S7w.out.erase FF.out.f5.ok a (by omega) (by omega) FF.out.t5.1 (by have := FF.out.t5.2; omega)).mono ?_); rw [FF.out.e6]; rintro e w7 ⟨rfl, s7, t7⟩; have S7 : Hid (Dv _ _ _ _ _ _ d6 _) := Lib.hid s7; have B7 := Lib.hid (B7w.out.trans (may_below t7 S7w.out.size)); clear s7 t7)
      | (go_at_call 31; (refine (S6.out.wordsAt FF.out.f5.ok 192 FF.out.f5.len).mono ?_); rintro e w6w ⟨g, cg, rfl, hcell, hcap, hmax, b6⟩; have g0 := hcell (64 * a) (by omega); rw [FF.out.w5] at g0; have S7w := Lib.hid (S6.out.below b6); have B7w := Lib.hid (B6.out.trans (b6.mono B6.out.size)); clear hcell b6)
      | (go_at_call 28; (refine (S5.out.programNew FF.out.f4.ok (64 * (a : Int)) [v] (by simp) (by omega) (by omega) FF.out.t4.1 (by have := FF.out.t4.2; omega)).mono ?_); rw [FF.out.e5]; rintro e w6 ⟨rfl, s6, t6⟩; have S6 : Hid (Dv _ _ _ _ _ _ d5 _) := Lib.hid s6; have B6 := Lib.hid (B5.out.trans (may_below t6 S5.out.size)); clear s6 t6)
      | (go_at_call 34; (refine (S5.out.wear FF.out.f4.ok a).mono ?_); rw [FF.out.w4]; rintro e w5' ⟨rfl, rfl⟩)
      | (go_at_call 20; (refine (S4.out.lock FF.out.f3.ok a false (by omega) (by omega)).mono ?_); rw [FF.out.e4]; rintro e w5 ⟨rfl, s5, t5⟩; have S5 : Hid (Dv _ _ _ _ _ _ d4 _) := Lib.hid s5; have B5 := Lib.hid (B4.out.trans (may_below t5 S4.out.size)); clear s5 t5)
      | (go_at_call 15; (refine (S3.out.erase FF.out.f2.ok b (by omega) (by omega) FF.out.t2.1 (by have := FF.out.t2.2; omega)).mono ?_); rw [FF.out.e3]; rintro e w4 ⟨rfl, s4, t4⟩; have S4 : Hid (Dv _ _ _ _ _ _ d3 _) := Lib.hid s4; have B4 := Lib.hid (B3.out.trans (may_below t4 S3.out.size)); clear s4 t4)
      | (go_at_call 28; (refine (S2.out.programNew FF.out.f1.ok (64 * (b : Int)) [v] (by simp) (by omega) (by omega) FF.out.t1.1 (by have := FF.out.t1.2; omega)).mono ?_); rw [FF.out.e2]; rintro e w3 ⟨rfl, s3, t3⟩; have S3 : Hid (Dv _ _ _ _ _ _ d2 _) := Lib.hid s3; have B3 := Lib.hid (B2.out.trans (may_below t3 S2.out.size)); clear s3 t3)
      | (go_at_call 20; (refine (S0.out.lock OK0.out a true (by omega) (by omega)).mono ?_); rw [FF.out.e1]; rintro e w2 ⟨rfl, s2, t2⟩; have S2 : Hid (Dv _ _ _ _ _ _ d1 _) := Lib.hid s2; have B2 := Lib.hid (B0.out.trans (may_below t2 S0.out.size)); clear s2 t2))
    go_ret
    exact ⟨rfl, B7.out⟩
end Go.Proofs.Ytfckgfimmoinmaa
