/- The walk of layer cfi's statement CfiJobs. -/
import Derived.Test.YteiegkfoabhikaaCfiSt
import Derived.Test.YteiegkfoabhikaaCfiFacts3
import Derived.Test.YteiegkfoabhikaaLaw
import Derived.OpenShut
import Derived.Deep.LoopGhost
import Derived.Deep.Light
namespace Go.Proofs.Yteiegkfoabhikaa
open Go.RowKit Bm

set_option maxRecDepth 100000 in
set_option maxHeartbeats 8000000 in
theorem cfiJobs_walk (a0 : Int) (b0 : (Lit.int .u8 a0).wf = true) (a1 : Int) (b1 : (Lit.int .u32 a1).wf = true) (A : Option Addr) (n cap : Nat) (xs : List (BitVec 32)) (w : World) (hr : ReadsU w A n cap xs) :
    Calls Try.prog 5 #[.int .u8 a0, .int .u32 a1, .slice A n cap] w fun e w' => e = .returned (.bool true) ∧ Below w.heap.size w w' := by
  have c0 := bounds_u8 b0
  have c1 := bounds_u32 b1
  have hle := hr.le
  have hmx := hr.max
  unfold maxLen at hmx
  by_cases hn : 80 < n
  · go_enter Try.func5, Try.ntmps5
    go_wp2_with fail
    refine (alive3_any w).mono ?_
    rintro e wa ⟨rfl, hBa⟩
    go_wp2
    go_ret
    exact ⟨rfl, hBa⟩
  obtain ⟨v, rfl⟩ := U_of (a := a1) c1.1 (by omega)
  obtain ⟨k, hk⟩ : ∃ k : Nat, a0 % 128 = (k : Int) := ⟨(a0 % 128).toNat, by omega⟩
  have k1 : k < 128 := by omega
  have hkd : (k : Int) / 64 = ((k / 64 : Nat) : Int) := by omega
  have F0 := Lib.hid (job_wait k k1)
  have F1 := Lib.hid (job_begin k v k1)
  have F2 := Lib.hid (job_end k v k1)
  have F3 := Lib.hid (done_wait k v k1)
  have F4 := Lib.hid (er_begin k v k1)
  have F5 := Lib.hid (er_end k v k1)
  have F6 := Lib.hid (ord_wd k k1)
  have F7 := Lib.hid (done_wd k v k1)
  have F8 := Lib.hid (fin_wd k v k1)
  have F9 := Lib.hid (fin_wear k v k1)
  have HKD := Lib.hid hkd
  clear b0 b1 c1 hkd
  go_enter Try.func5, Try.ntmps5
  go_wp2_with fail
  refine (alive3_any w).mono ?_
  rintro e wa ⟨rfl, hBa⟩
  go_wp2_with fail
  refine (begin_st w.heap.size 2 5 wa hBa.size (by omega) (by omega) (by omega) (by omega)).mono ?_
  rintro e w1 ⟨p, f, rfl, s0, t1⟩
  have q1 := hBa.trans t1
  clear hBa t1
  go_wp2_with fail
  refine (St.writeTo (m := ordM) s0 ordM_ok k 64 64#32 rfl F0.out).mono ?_
  rintro e w2 ⟨rfl, s1, t2⟩
  have q2 := q1.trans t2
  clear q1 t2 s0
  go_wp2_with fail
  refine (s1.writeTo wait64_ok k _ v rfl F1.out).mono ?_
  rintro e w3 ⟨rfl, s2, t3⟩
  have q3 := q2.trans t3
  clear q2 t3 s1
  go_wp2
  clear hk c0
  go_loopg [36] 2 (fun g i wr => ∃ j : Nat, j ≤ 2 ∧ g = 2 - j ∧ i = .int .i64 j ∧ St w.heap.size p f (jobM k v (3 - j)) wr ∧ Below w.heap.size w wr)
  case atStart => exact ⟨0, by omega, rfl, rfl, s2, q3⟩
  case round =>
    clear s2 q3
    obtain ⟨j, hj, rfl, rfl, s, q⟩ := hrel
    by_cases hlt : j < 2
    · have hlz : (j : Int) < 2 := by omega
      have jok : FlashOk 2 (jobM k v (3 - j)) := jobM_ok k v (3 - j) k1 (by omega) (by omega)
      have G := Lib.hid (job_tick k v (3 - j) (by omega))
      have JOK := Lib.hid jok
      clear jok
      go_wp2
      go_loopg [41] n (fun g i' wr' => ∃ t : Nat, t ≤ n ∧ g = n - t ∧ i' = .int .i64 t ∧ St w.heap.size p f (jobM k v (3 - j)) wr' ∧ Below w.heap.size w wr')
      case atStart => exact ⟨0, by omega, rfl, rfl, s, q⟩
      case round =>
        clear s q
        obtain ⟨t, ht, rfl, rfl, s, q⟩ := hrel
        by_cases hlt2 : t < n
        · have hlz2 : (t : Int) < (n : Int) := by omega
          obtain ⟨ad, rfl, hcell⟩ := (hr.kept q).at_ hlt2
          go_wp2_with fail
          refine (s.writeTo JOK.out k _ (wd xs t) rfl (job_busy k k v (wd xs t) (3 - j) k1)).mono ?_
          rintro e w4 ⟨rfl, s', t'⟩
          have q' := q.trans t'
          clear q t' s hcell
          go_wp2
          go_roundg (n - (t + 1))
          case measure => go_light; omega
          case rel => go_light; exact ⟨t + 1, by omega, rfl, by simp, s', q'⟩
        · obtain rfl : t = n := by omega
          have hlz2 : ¬ ((t : Int) < (t : Int)) := by omega
          go_wp2_with fail
          refine (s.readTo JOK.out k (job_read k k v (3 - j) k1) (xi := 0) rfl).mono ?_
          rintro e w4 ⟨rfl, s4, t4⟩
          have q4 := q.trans t4
          clear q t4 s
          go_wp2_with fail
          refine (s4.tickTo JOK.out 1 (by omega) (by omega) G.out).mono ?_
          rintro e w5 ⟨rfl, s5, t5⟩
          have q5 := q4.trans t5
          clear q4 t5 s4
          have e1 : (3 : Int) - j - 1 = 3 - ((j + 1 : Nat) : Int) := by omega
          rw [e1] at s5
          clear e1
          go_wp2_with fail
          refine (s5.wordsAt (jobM_ok k v _ k1 (by omega) (by omega)) 128 ordM_len).mono ?_
          rintro e w6 ⟨g, cap', rfl, hcell, hcap, hmax, t6⟩
          have g0 : w6.cell? ⟨g, k, none⟩ = some (.int .u32 (U (wd ordM.chip.ws k))) := hcell k k1
          rw [F6.out] at g0
          have q6 := q5.trans (t6.mono q5.size)
          have s6 := s5.below t6
          clear hcell q5 t6 s5
          go_wp2
          go_roundg (2 - (j + 1))
          case measure => go_light; omega
          case rel => go_light; exact ⟨j + 1, by omega, rfl, by simp, s6, q6⟩
    · obtain rfl : j = 2 := by omega
      have s' : St w.heap.size p f (jobM k v 1) _ := s
      clear s
      go_wp2_with fail
      refine (s'.tickTo (jobM_ok k v 1 k1 (by omega) (by omega)) 1 (by omega) (by omega) F2.out).mono ?_
      rintro e w4 ⟨rfl, s4, t4⟩
      have q4 := q.trans t4
      clear q t4 s'
      go_wp2_with fail
      refine (s4.statusTo (doneM_ok k v k1) (xi := 128) (done_status k v) rfl).mono ?_
      rintro e w' ⟨rfl, rfl⟩
      go_wp2_with fail
      refine (s4.wordsAt (doneM_ok k v k1) 128 (done_len k v)).mono ?_
      rintro e w5 ⟨g, cap', rfl, hcell, hcap, hmax, t5⟩
      have g0 : w5.cell? ⟨g, k, none⟩ = some (.int .u32 (U (wd (doneM k v).chip.ws k))) := hcell k k1
      rw [F7.out] at g0
      have q5 := q4.trans (t5.mono q4.size)
      have s5 := s4.below t5
      clear hcell q4 t5 s4
      go_wp2_with fail
      refine (s5.writeTo (doneM_ok k v k1) k 32 32#32 rfl F3.out).mono ?_
      rintro e w6 ⟨rfl, s6, t6⟩
      have q6 := q5.trans t6
      clear q5 t6 s5 g0 hcap hmax
      go_wp2_with fail
      refine (s6.writeTo (doneW_ok k v k1) k 208 208#32 rfl F4.out).mono ?_
      rintro e w7 ⟨rfl, s7, t7⟩
      have q7 := q6.trans t7
      clear q6 t7 s6
      go_wp2_with fail
      refine (s7.tickTo (erM_ok k v 20 k1 (by omega) (by omega)) 19 (by omega) (by omega) (er_tick k v)).mono ?_
      rintro e w8 ⟨rfl, s8, t8⟩
      have q8 := q7.trans t8
      clear q7 t8 s7
      go_wp2_with fail
      refine (s8.statusTo (erM_ok k v 1 k1 (by omega) (by omega)) (xi := 0) (er_status k v 1) rfl).mono ?_
      rintro e w' ⟨rfl, rfl⟩
      go_wp2_with fail
      refine (s8.wordsAt (erM_ok k v 1 k1 (by omega) (by omega)) 128 (done_len k v)).mono ?_
      rintro e w9 ⟨g, cap', rfl, hcell, hcap, hmax, t9⟩
      have g0 : w9.cell? ⟨g, k, none⟩ = some (.int .u32 (U (wd (doneM k v).chip.ws k))) := hcell k k1
      rw [F7.out] at g0
      have q9 := q8.trans (t9.mono q8.size)
      have s9 := s8.below t9
      clear hcell q8 t9 s8
      go_wp2_with fail
      refine (s9.tickTo (erM_ok k v 1 k1 (by omega) (by omega)) 1 (by omega) (by omega) F5.out).mono ?_
      rintro e w10 ⟨rfl, s10, t10⟩
      have q10 := q9.trans t10
      clear q9 t10 s9 g0 hcap hmax
      go_wp2_with fail
      refine (s10.statusTo (finM_ok k v k1) (xi := 128) (fin_status k v) rfl).mono ?_
      rintro e w' ⟨rfl, rfl⟩
      go_wp2_with fail
      refine (s10.wordsAt (finM_ok k v k1) 128 (fin_len k v)).mono ?_
      rintro e w11 ⟨g, cap', rfl, hcell, hcap, hmax, t11⟩
      have g0 := hcell k k1
      rw [F8.out] at g0
      have q11 := q10.trans (t11.mono q10.size)
      have s11 := s10.below t11
      clear hcell q10 t11 s10
      have hw := s11.wear (finM_ok k v k1) ((k : Int) / 64)
      rw [show mWear (finM k v).chip ((k : Int) / 64) = 1 by rw [HKD.out]; exact F9.out] at hw
      have HWR := Lib.hid hw
      clear hw
      go_wp2_with fail
      refine HWR.out.mono ?_
      rintro e w' ⟨rfl, rfl⟩
      go_wp2
      go_ret
      exact ⟨rfl, q11⟩
end Go.Proofs.Yteiegkfoabhikaa
