/- The walk of layer cfi's statement CfiModes. -/
import Derived.Test.YteiegkfoabhikaaCfiMap
import Derived.Test.YteiegkfoabhikaaCfiFacts
import Derived.Test.YteiegkfoabhikaaLaw
import Derived.OpenShut
namespace Go.Proofs.Yteiegkfoabhikaa
open Go.RowKit Bm

set_option maxRecDepth 100000 in
set_option maxHeartbeats 4000000 in
theorem cfiModes_walk (a0 : Int) (b0 : (Lit.int .u16 a0).wf = true) (a1 : Int) (b1 : (Lit.int .u32 a1).wf = true) (w : World) :
    Calls Try.prog 8 #[.int .u16 a0, .int .u32 a1] w fun e w' => e = .returned (.bool true) ∧ Below w.heap.size w w' := by
  have c0 := bounds_u16 b0
  have c1 := bounds_u32 b1
  obtain ⟨v, rfl⟩ := U_of (a := a1) c1.1 (by omega)
  obtain ⟨k, hk⟩ : ∃ k : Nat, a0 % 192 = (k : Int) := ⟨(a0 % 192).toNat, by omega⟩
  have k1 : k < 192 := by omega
  have HK := Lib.hid hk
  have d0 : 0 ≤ a0 % 192 := by omega
  have d1 : a0 % 192 < 192 := by omega
  have io1 : iOk (a0 % 192) := ⟨by omega, by omega⟩
  have io2 : iOk (a0 % 64) := ⟨by omega, by omega⟩
  have IO1 := Lib.hid io1
  have IO2 := Lib.hid io2
  clear hk b0 b1 c1 io1 io2
  have hB : 0 ≤ 0 := Nat.le_refl 0
  clear hB
  go_enter Try.func8, Try.ntmps8
  go_wp2_with fail
  refine (alive3_any w).mono ?_
  rintro e wa ⟨rfl, hBa⟩
  go_wp2_with fail
  refine (begin_st w.heap.size 3 5 wa hBa.size (by omega) (by omega) (by omega) (by omega)).mono ?_
  rintro e w1 ⟨p, f, rfl, s0, t1⟩
  have b1 := hBa.trans t1
  clear hBa t1
  have hp := s0.program (newOk 3 5 (by omega) (by omega) (by omega) (by omega)) (a0 % 192) v
  have e1 : mProgram (fNew (mNew 3 5)).chip (a0 % 192) v = (oneM 3 k v, 0) := by rw [HK.out]; exact oneM_is 3 k v k1
  rw [e1] at hp
  dsimp only at hp
  rw [modM_zero] at hp
  have o0 : FlashOk 3 (modM k v 0) := by
    have g := (newOk 3 5 (by omega) (by omega) (by omega) (by omega) : FlashOk 3 (fNew (mNew 3 5)))
    have g2 := g.chipTo _ (g.chip.program (a0 % 192) v)
    rw [e1] at g2
    exact g2
  have o1 : FlashOk 3 (modM k v 1) := o0.modeTo rfl 1 (by simp)
  have o2 : FlashOk 3 (modM k v 2) := o0.modeTo rfl 2 (by simp)
  have o3 : FlashOk 3 (modM k v 3) := o0.modeTo rfl 3 (by simp)
  have r0 : fRead (modM k v 0) (a0 % 192) = (v, 0) := by rw [modM_read k v 0 _ HK.out k1, modM_r0 k v k1]
  have r1 : fRead (modM k v 1) (a0 % 192) = (128#32, 0) := by rw [modM_read k v 1 _ HK.out k1, modM_r1 k v]
  have r2 : fRead (modM k v 2) (a0 % 192) = (fReadDo (modM k v 2) k, 0) := modM_read k v 2 _ HK.out k1
  have r3 : fRead (modM k v 3) (a0 % 192) = (fReadDo (modM k v 3) k, 0) := modM_read k v 3 _ HK.out k1
  have u2 := modM_r2 k v _ HK.out
  rw [show a0 % 192 % 64 = a0 % 64 by omega] at u2
  have u3 := modM_r3 k v _ HK.out
  obtain ⟨z2, hz2⟩ : ∃ z : Int, (if a0 % 64 = 1 then 24 else if a0 % 64 = 0 then 137 else 0) = z := ⟨_, rfl⟩
  obtain ⟨z3, hz3⟩ : ∃ z : Int, (if a0 % 192 = 44 then 3 else if a0 % 192 = 18 then 89 else if a0 % 192 = 17 then 82 else if a0 % 192 = 16 then 81 else 0) = z := ⟨_, rfl⟩
  rw [hz2] at u2
  rw [hz3] at u3
  have l2 := fun W => map_two W 0 137 1 24 (a0 % 64) ⟨by omega, by omega⟩ ⟨by omega, by omega⟩ ⟨by omega, by omega⟩ ⟨by omega, by omega⟩ IO2.out
  have l3 := fun W => map_four W 16 81 17 82 18 89 44 3 (a0 % 192) ⟨by omega, by omega⟩ ⟨by omega, by omega⟩ ⟨by omega, by omega⟩ ⟨by omega, by omega⟩ ⟨by omega, by omega⟩ ⟨by omega, by omega⟩ ⟨by omega, by omega⟩ ⟨by omega, by omega⟩ IO1.out
  rw [hz2] at l2
  rw [hz3] at l3
  have L2 := Lib.hid l2
  have L3 := Lib.hid l3
  clear hz2 hz3 l2 l3
  have R0 := Lib.hid r0
  have R1 := Lib.hid r1
  have R2 := Lib.hid r2
  have R3 := Lib.hid r3
  have U2 := Lib.hid u2
  have U3 := Lib.hid u3
  clear r0 r1 r2 r3 u2 u3 e1 s0
  go_wp2_with fail
  refine hp.mono ?_
  rintro e w2 ⟨rfl, s1, t2⟩
  have b2 := b1.trans t2
  clear b1 t2 hp
  go_wp2_with fail
  refine (s1.readTo o0 _ R0.out rfl).mono ?_
  rintro e w3 ⟨rfl, s2, t3⟩
  have b3 := b2.trans t3
  clear b2 t3 s1
  go_wp2_with fail
  refine (s2.writeTo o0 0 112 112#32 rfl (modM_status k v 0)).mono ?_
  rintro e w4 ⟨rfl, s3, t4⟩
  have b4 := b3.trans t4
  clear b3 t4 s2
  go_wp2_with fail
  refine (s3.readTo o1 _ R1.out (xi := 128) rfl).mono ?_
  rintro e w5 ⟨rfl, s4, t5⟩
  have b5 := b4.trans t5
  clear b4 t5 s3
  go_wp2_with fail
  refine (s4.writeTo o1 0 144 144#32 rfl (modM_id k v 1)).mono ?_
  rintro e w6 ⟨rfl, s5, t6⟩
  have b6 := b5.trans t6
  clear b5 t6 s4
  go_wp2_with fail
  refine (s5.readTo o2 _ R2.out U2.out).mono ?_
  rintro e w7 ⟨rfl, s6, t7⟩
  have b7 := b6.trans t7
  clear b6 t7 s5
  go_wp2_with fail
  refine (s6.writeTo o2 0 152 152#32 rfl (modM_query k v 2)).mono ?_
  rintro e w8 ⟨rfl, s7, t8⟩
  have b8 := b7.trans t8
  clear b7 t8 s6
  have hmm := @run_makeMap Try.prog
  go_wp2_with fail
  refine (s7.readTo o3 _ R3.out U3.out).mono ?_
  rintro e w9 ⟨rfl, s8, t9⟩
  have b9 := b8.trans t9
  clear b8 t9 s7
  obtain ⟨x1, x2, p1, p2, p3, bx⟩ := L2.out w9
  obtain ⟨y1, y2, y3, y4, q1, q2, q3, q4, q5, bz⟩ := L3.out x2
  have bb := (b9.trans (bx.mono b9.size)).trans (bz.mono (Nat.le_trans b9.size bx.size))
  have BB := Lib.hid bb
  clear bb b9 bx bz s8
  go_wp2
  go_ret
  exact ⟨rfl, BB.out⟩
end Go.Proofs.Yteiegkfoabhikaa
