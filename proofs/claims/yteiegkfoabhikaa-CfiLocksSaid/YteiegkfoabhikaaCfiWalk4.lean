/- The walk of layer cfi's statement CfiLocks. -/
import Derived.Test.YteiegkfoabhikaaCfiSt
import Derived.Test.YteiegkfoabhikaaCfiFacts2
import Derived.Test.YteiegkfoabhikaaLaw
import Derived.OpenShut
namespace Go.Proofs.Yteiegkfoabhikaa
open Go.RowKit Bm

set_option maxRecDepth 100000 in
set_option maxHeartbeats 8000000 in
theorem cfiLocks_walk (a0 : Int) (b0 : (Lit.int .u8 a0).wf = true) (a1 : Int) (b1 : (Lit.int .u8 a1).wf = true) (a2 : Int) (b2 : (Lit.int .u32 a2).wf = true) (w : World) :
    Calls Try.prog 6 #[.int .u8 a0, .int .u8 a1, .int .u32 a2] w fun e w' => e = .returned (.bool true) ∧ Below w.heap.size w w' := by
  have c0 := bounds_u8 b0
  have c1 := bounds_u8 b1
  have c2 := bounds_u32 b2
  obtain ⟨v, rfl⟩ := U_of (a := a2) c2.1 (by omega)
  obtain ⟨k, hk⟩ : ∃ k : Nat, a0 % 128 = (k : Int) := ⟨(a0 % 128).toNat, by omega⟩
  obtain ⟨o, ho⟩ : ∃ o : Nat, a1 % 128 = (o : Int) := ⟨(a1 % 128).toNat, by omega⟩
  have k1 : k < 128 := by omega
  have o1 : o < 128 := by omega
  obtain ⟨b, hb⟩ : ∃ b, b = k / 64 := ⟨_, rfl⟩
  have hb2 : b < 2 := by omega
  have f0 := lockAt_ord k k1
  have f1 := lock_locks k k1
  rw [← hb] at f1
  have f2 := lock_program b o o1
  have eb : (k : Int) / 64 * 64 + 2 = ((b * 64 + 2 : Nat) : Int) := by omega
  have F0 := Lib.hid f0
  have F1 := Lib.hid f1
  have F2 := Lib.hid f2
  have HB := Lib.hid hb
  have EB := Lib.hid eb
  clear b0 b1 b2 c2 f0 f1 f2 eb
  by_cases hl : k / 64 = o / 64
  · have q : ((k : Int) / 64 == (o : Int) / 64) = true := by rw [beq_iff_eq]; omega
    have f3 := lock_err b o v o1 (by omega)
    have f4 := lockErr_tick b
    have f5 := lockErr_clear b
    have f6 : U (wd (mNew 2 5).ws o) = 4294967295 := by rw [show wd (mNew 2 5).ws o = ones from wd_rep _ _ _ (by omega)]; rfl
    have f7 := lockId_read b (mNew 2 5) rfl new2_len hb2
    have f8 := idM_read b (mNew 2 5) rfl new2_len hb2
    rw [← EB.out] at f7 f8
    have F3 := Lib.hid f3
    have F4 := Lib.hid f4
    have F5 := Lib.hid f5
    have F6 := Lib.hid f6
    have F7 := Lib.hid f7
    have F8 := Lib.hid f8
    clear f3 f4 f5 f6 f7 f8 hl hb
    go_enter Try.func6, Try.ntmps6
    go_wp2_with fail
    refine (alive3_any w).mono ?_
    rintro e wa ⟨rfl, hBa⟩
    go_wp2_with fail
    refine (begin_st w.heap.size 2 5 wa hBa.size (by omega) (by omega) (by omega) (by omega)).mono ?_
    rintro e w1 ⟨p, f, rfl, s0, t1⟩
    have q1 := hBa.trans t1
    clear hBa t1
    go_wp2_with fail
    refine (St.writeTo (m := ordM) s0 ordM_ok k 96 96#32 rfl F0.out).mono ?_
    rintro e w2 ⟨rfl, s1, t2⟩
    have q2 := q1.trans t2
    clear q1 t2 s0
    go_wp2_with fail
    refine (s1.writeTo (waitM_ok 96 (by simp)) k 1 1#32 rfl F1.out).mono ?_
    rintro e w3 ⟨rfl, s2, t3⟩
    have q3 := q2.trans t3
    clear q2 t3 s1
    go_wp2_with fail
    refine (s2.writeTo (lockM_ok b new2_ok) o 64 64#32 rfl F2.out).mono ?_
    rintro e w4 ⟨rfl, s3, t4⟩
    have q4 := q3.trans t4
    clear q3 t4 s2
    go_wp2_with fail
    refine (s3.writeTo (lockW_ok b) o _ v rfl F3.out).mono ?_
    rintro e w5 ⟨rfl, s4, t5⟩
    have q5 := q4.trans t5
    clear q4 t5 s3
    go_wp2_with fail
    refine (s4.statusTo (lockErr_ok b) (xi := 146) (lockErr_status b) rfl).mono ?_
    rintro e w' ⟨rfl, rfl⟩
    go_wp2_with fail
    refine (s4.tickTo (lockErr_ok b) 3 (by omega) (by omega) F4.out).mono ?_
    rintro e w6 ⟨rfl, s5, t6⟩
    have q6 := q5.trans t6
    clear q5 t6 s4
    go_wp2_with fail
    refine (s5.wordsAt (lockErr_ok b) 128 new2_len).mono ?_
    rintro e w7 ⟨g, cap, rfl, hcell, hcap, hmax, t7⟩
    have g0 : w7.cell? ⟨g, o, none⟩ = some (.int .u32 (U (wd (mNew 2 5).ws o))) := hcell o o1
    rw [F6.out] at g0
    have q7 := q6.trans (t7.mono q6.size)
    have s6 := s5.below t7
    clear hcell q6 t7 s5
    go_wp2_with fail
    refine (s6.writeTo (lockErr_ok b) 0 80 80#32 rfl F5.out).mono ?_
    rintro e w8 ⟨rfl, s7, t8⟩
    have q8 := q7.trans t8
    clear q7 t8 s6 g0
    go_wp2_with fail
    refine (s7.writeTo (lockM_ok b new2_ok) 0 144 144#32 rfl (lockM_id b _ rfl new2_len)).mono ?_
    rintro e w9 ⟨rfl, s8, t9⟩
    have q9 := q8.trans t9
    clear q8 t9 s7
    go_wp2_with fail
    refine (s8.readTo (lockId_ok b new2_ok) _ F7.out (xi := 1) rfl).mono ?_
    rintro e w10 ⟨rfl, s9, t10⟩
    have q10 := q9.trans t10
    clear q9 t10 s8
    go_wp2_with fail
    refine s9.reset.mono ?_
    rintro e w11 ⟨rfl, s10, t11⟩
    have q11 := q10.trans t11
    rw [lockId_reset] at s10
    clear q10 t11 s9
    go_wp2_with fail
    refine (s10.writeTo (FlashOk.new new2_ok) 0 144 144#32 rfl (new_id _ rfl new2_len)).mono ?_
    rintro e w12 ⟨rfl, s11, t12⟩
    have q12 := q11.trans t12
    clear q11 t12 s10
    go_wp2_with fail
    refine (s11.readTo (idM_ok new2_ok) _ F8.out (xi := 0) rfl).mono ?_
    rintro e w13 ⟨rfl, s12, t13⟩
    have q13 := q12.trans t13
    clear q12 t13 s11
    go_wp2_with fail
    refine (s12.statusTo (idM_ok new2_ok) (xi := 128) (idM_status _) rfl).mono ?_
    rintro e w' ⟨rfl, rfl⟩
    go_wp2
    go_ret
    exact ⟨rfl, q13⟩
  · have q : ((k : Int) / 64 == (o : Int) / 64) = false := by rw [beq_eq_false_iff_ne]; omega
    have f3 := lock_job b o v o1 (by omega)
    have f4 := lockJob_tick b o v o1
    have f5 := lockM_clear b (oneM 2 o v) rfl (oneM_len 2 o v)
    have f6 : U (wd (oneM 2 o v).ws o) = U v := by rw [oneM_wd 2 o v (by omega)]
    have COK := Lib.hid (oneM_ok 2 o v (by omega) (by omega) (by omega))
    have f7 := lockId_read b (oneM 2 o v) rfl (oneM_len 2 o v) hb2
    have f8 := idM_read b (oneM 2 o v) rfl (oneM_len 2 o v) hb2
    rw [← EB.out] at f7 f8
    have F3 := Lib.hid f3
    have F4 := Lib.hid f4
    have F5 := Lib.hid f5
    have F6 := Lib.hid f6
    have F7 := Lib.hid f7
    have F8 := Lib.hid f8
    clear f3 f4 f5 f6 f7 f8 hl hb
    go_enter Try.func6, Try.ntmps6
    go_wp2_with fail
    refine (alive3_any w).mono ?_
    rintro e wa ⟨rfl, hBa⟩
    go_wp2_with fail
    refine (begin_st w.heap.size 2 5 wa hBa.size (by omega) (by omega) (by omega) (by omega)).mono ?_
    rintro e w1 ⟨p, f, rfl, s0, t1⟩
    have q1 := hBa.trans t1
    clear hBa t1
    go_wp2_with fail
    refine (St.writeTo (m := ordM) s0 ordM_ok k 96 96#32 rfl F0.out).mono ?_
    rintro e w2 ⟨rfl, s1, t2⟩
    have q2 := q1.trans t2
    clear q1 t2 s0
    go_wp2_with fail
    refine (s1.writeTo (waitM_ok 96 (by simp)) k 1 1#32 rfl F1.out).mono ?_
    rintro e w3 ⟨rfl, s2, t3⟩
    have q3 := q2.trans t3
    clear q2 t3 s1
    go_wp2_with fail
    refine (s2.writeTo (lockM_ok b new2_ok) o 64 64#32 rfl F2.out).mono ?_
    rintro e w4 ⟨rfl, s3, t4⟩
    have q4 := q3.trans t4
    clear q3 t4 s2
    go_wp2_with fail
    refine (s3.writeTo (lockW_ok b) o _ v rfl F3.out).mono ?_
    rintro e w5 ⟨rfl, s4, t5⟩
    have q5 := q4.trans t5
    clear q4 t5 s3
    go_wp2_with fail
    refine (s4.statusTo (lockJob_ok b o v o1) (xi := 0) (lockJob_status b o v) rfl).mono ?_
    rintro e w' ⟨rfl, rfl⟩
    go_wp2_with fail
    refine (s4.tickTo (lockJob_ok b o v o1) 3 (by omega) (by omega) F4.out).mono ?_
    rintro e w6 ⟨rfl, s5, t6⟩
    have q6 := q5.trans t6
    clear q5 t6 s4
    go_wp2_with fail
    refine (s5.wordsAt (lockM_ok b COK.out) 128 (oneM_len 2 o v)).mono ?_
    rintro e w7 ⟨g, cap, rfl, hcell, hcap, hmax, t7⟩
    have g0 : w7.cell? ⟨g, o, none⟩ = some (.int .u32 (U (wd (oneM 2 o v).ws o))) := hcell o o1
    rw [F6.out] at g0
    have q7 := q6.trans (t7.mono q6.size)
    have s6 := s5.below t7
    clear hcell q6 t7 s5
    go_wp2_with fail
    refine (s6.writeTo (lockM_ok b COK.out) 0 80 80#32 rfl F5.out).mono ?_
    rintro e w8 ⟨rfl, s7, t8⟩
    have q8 := q7.trans t8
    clear q7 t8 s6 g0
    go_wp2_with fail
    refine (s7.writeTo (lockM_ok b COK.out) 0 144 144#32 rfl (lockM_id b _ rfl (oneM_len 2 o v))).mono ?_
    rintro e w9 ⟨rfl, s8, t9⟩
    have q9 := q8.trans t9
    clear q8 t9 s7
    go_wp2_with fail
    refine (s8.readTo (lockId_ok b COK.out) _ F7.out (xi := 1) rfl).mono ?_
    rintro e w10 ⟨rfl, s9, t10⟩
    have q10 := q9.trans t10
    clear q9 t10 s8
    go_wp2_with fail
    refine s9.reset.mono ?_
    rintro e w11 ⟨rfl, s10, t11⟩
    have q11 := q10.trans t11
    rw [lockId_reset] at s10
    clear q10 t11 s9
    go_wp2_with fail
    refine (s10.writeTo (FlashOk.new COK.out) 0 144 144#32 rfl (new_id _ rfl (oneM_len 2 o v))).mono ?_
    rintro e w12 ⟨rfl, s11, t12⟩
    have q12 := q11.trans t12
    clear q11 t12 s10
    go_wp2_with fail
    refine (s11.readTo (idM_ok COK.out) _ F8.out (xi := 0) rfl).mono ?_
    rintro e w13 ⟨rfl, s12, t13⟩
    have q13 := q12.trans t13
    clear q12 t13 s11
    go_wp2_with fail
    refine (s12.statusTo (idM_ok COK.out) (xi := 128) (idM_status _) rfl).mono ?_
    rintro e w' ⟨rfl, rfl⟩
    go_wp2
    go_ret
    exact ⟨rfl, q13⟩
end Go.Proofs.Yteiegkfoabhikaa
