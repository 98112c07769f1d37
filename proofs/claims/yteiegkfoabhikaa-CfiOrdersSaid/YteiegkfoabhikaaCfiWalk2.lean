/- The walk of layer cfi's statement CfiOrders. -/
import Derived.Test.YteiegkfoabhikaaCfiMap
import Derived.Test.YteiegkfoabhikaaCfiFacts
import Derived.Test.YteiegkfoabhikaaLaw
import Derived.OpenShut
import Derived.Deep.DeepCutAuto
namespace Go.Proofs.Yteiegkfoabhikaa
open Go.RowKit Bm

/-- The statement returns true. -/
def Yes (w : World) (e : Ending) (w' : World) : Prop := e = .returned (.bool true) ∧ Below w.heap.size w w'

set_option maxRecDepth 100000 in
set_option maxHeartbeats 8000000 in
theorem cfiOrders_walk (a0 : Int) (b0 : (Lit.int .u32 a0).wf = true) (a1 : Int) (b1 : (Lit.int .u8 a1).wf = true) (w : World) :
    Calls Try.prog 9 #[.int .u32 a0, .int .u8 a1] w (Yes w) := by
  have c0 := bounds_u32 b0
  have c1 := bounds_u8 b1
  obtain ⟨v, rfl⟩ := U_of (a := a0) c0.1 (by omega)
  clear b0 b1 c0
  rcases (show a1 % 3 = 0 ∨ a1 % 3 = 1 ∨ a1 % 3 = 2 by omega) with hm | hm | hm
  · by_cases hk : Known (v &&& 255#32)
    · rcases hk with h255 | h112 | h144 | h152 | h80 | h64 | h32 | h96
      · have e : U (v &&& 255#32) = 255 := by rw [h255]; rfl
        clear h255
        go_enter Try.func9, Try.ntmps9
        go_wp2_with fail
        refine (alive3_any w).mono ?_
        rintro e wa ⟨rfl, hBa⟩
        go_wp2_with fail
        refine (begin_st w.heap.size 2 5 wa hBa.size (by omega) (by omega) (by omega) (by omega)).mono ?_
        rintro e w1 ⟨p, f, rfl, s0, t1⟩
        have b1 := hBa.trans t1
        have s1 : St w.heap.size p f ordM (w1.alloc (.cells #[.int .u32 0, .int .u32 32, .int .u32 96] 30)) := s0.alloc _
        have b2 := b1.alloc (B := w.heap.size) s0.size (.cells #[.int .u32 0, .int .u32 32, .int .u32 96] 30)
        clear hBa t1 s0 b1
        go_wp2_with fail
        refine (s1.write ordM_ok 0 v).mono ?_
        rintro e w3 ⟨rfl, s3, t3⟩
        have b4 := b2.trans t3
        clear b2 t3 s1 s3
        go_wp2
        go_ret
        exact ⟨rfl, b4⟩
      · have e : U (v &&& 255#32) = 112 := by rw [h112]; rfl
        clear h112
        go_enter Try.func9, Try.ntmps9
        go_wp2_with fail
        refine (alive3_any w).mono ?_
        rintro e wa ⟨rfl, hBa⟩
        go_wp2_with fail
        refine (begin_st w.heap.size 2 5 wa hBa.size (by omega) (by omega) (by omega) (by omega)).mono ?_
        rintro e w1 ⟨p, f, rfl, s0, t1⟩
        have b1 := hBa.trans t1
        have s1 : St w.heap.size p f ordM (w1.alloc (.cells #[.int .u32 0, .int .u32 32, .int .u32 96] 30)) := s0.alloc _
        have b2 := b1.alloc (B := w.heap.size) s0.size (.cells #[.int .u32 0, .int .u32 32, .int .u32 96] 30)
        clear hBa t1 s0 b1
        go_wp2_with fail
        refine (s1.write ordM_ok 0 v).mono ?_
        rintro e w3 ⟨rfl, s3, t3⟩
        have b4 := b2.trans t3
        clear b2 t3 s1 s3
        go_wp2
        go_ret
        exact ⟨rfl, b4⟩
      · have e : U (v &&& 255#32) = 144 := by rw [h144]; rfl
        clear h144
        go_enter Try.func9, Try.ntmps9
        go_wp2_with fail
        refine (alive3_any w).mono ?_
        rintro e wa ⟨rfl, hBa⟩
        go_wp2_with fail
        refine (begin_st w.heap.size 2 5 wa hBa.size (by omega) (by omega) (by omega) (by omega)).mono ?_
        rintro e w1 ⟨p, f, rfl, s0, t1⟩
        have b1 := hBa.trans t1
        have s1 : St w.heap.size p f ordM (w1.alloc (.cells #[.int .u32 0, .int .u32 32, .int .u32 96] 30)) := s0.alloc _
        have b2 := b1.alloc (B := w.heap.size) s0.size (.cells #[.int .u32 0, .int .u32 32, .int .u32 96] 30)
        clear hBa t1 s0 b1
        go_wp2_with fail
        refine (s1.write ordM_ok 0 v).mono ?_
        rintro e w3 ⟨rfl, s3, t3⟩
        have b4 := b2.trans t3
        clear b2 t3 s1 s3
        go_wp2
        go_ret
        exact ⟨rfl, b4⟩
      · have e : U (v &&& 255#32) = 152 := by rw [h152]; rfl
        clear h152
        go_enter Try.func9, Try.ntmps9
        go_wp2_with fail
        refine (alive3_any w).mono ?_
        rintro e wa ⟨rfl, hBa⟩
        go_wp2_with fail
        refine (begin_st w.heap.size 2 5 wa hBa.size (by omega) (by omega) (by omega) (by omega)).mono ?_
        rintro e w1 ⟨p, f, rfl, s0, t1⟩
        have b1 := hBa.trans t1
        have s1 : St w.heap.size p f ordM (w1.alloc (.cells #[.int .u32 0, .int .u32 32, .int .u32 96] 30)) := s0.alloc _
        have b2 := b1.alloc (B := w.heap.size) s0.size (.cells #[.int .u32 0, .int .u32 32, .int .u32 96] 30)
        clear hBa t1 s0 b1
        go_wp2_with fail
        refine (s1.write ordM_ok 0 v).mono ?_
        rintro e w3 ⟨rfl, s3, t3⟩
        have b4 := b2.trans t3
        clear b2 t3 s1 s3
        go_wp2
        go_ret
        exact ⟨rfl, b4⟩
      · have e : U (v &&& 255#32) = 80 := by rw [h80]; rfl
        clear h80
        go_enter Try.func9, Try.ntmps9
        go_wp2_with fail
        refine (alive3_any w).mono ?_
        rintro e wa ⟨rfl, hBa⟩
        go_wp2_with fail
        refine (begin_st w.heap.size 2 5 wa hBa.size (by omega) (by omega) (by omega) (by omega)).mono ?_
        rintro e w1 ⟨p, f, rfl, s0, t1⟩
        have b1 := hBa.trans t1
        have s1 : St w.heap.size p f ordM (w1.alloc (.cells #[.int .u32 0, .int .u32 32, .int .u32 96] 30)) := s0.alloc _
        have b2 := b1.alloc (B := w.heap.size) s0.size (.cells #[.int .u32 0, .int .u32 32, .int .u32 96] 30)
        clear hBa t1 s0 b1
        go_wp2_with fail
        refine (s1.write ordM_ok 0 v).mono ?_
        rintro e w3 ⟨rfl, s3, t3⟩
        have b4 := b2.trans t3
        clear b2 t3 s1 s3
        go_wp2
        go_ret
        exact ⟨rfl, b4⟩
      · have e : U (v &&& 255#32) = 64 := by rw [h64]; rfl
        clear h64
        go_enter Try.func9, Try.ntmps9
        go_wp2_with fail
        refine (alive3_any w).mono ?_
        rintro e wa ⟨rfl, hBa⟩
        go_wp2_with fail
        refine (begin_st w.heap.size 2 5 wa hBa.size (by omega) (by omega) (by omega) (by omega)).mono ?_
        rintro e w1 ⟨p, f, rfl, s0, t1⟩
        have b1 := hBa.trans t1
        have s1 : St w.heap.size p f ordM (w1.alloc (.cells #[.int .u32 0, .int .u32 32, .int .u32 96] 30)) := s0.alloc _
        have b2 := b1.alloc (B := w.heap.size) s0.size (.cells #[.int .u32 0, .int .u32 32, .int .u32 96] 30)
        clear hBa t1 s0 b1
        go_wp2_with fail
        refine (s1.write ordM_ok 0 v).mono ?_
        rintro e w3 ⟨rfl, s3, t3⟩
        have b4 := b2.trans t3
        clear b2 t3 s1 s3
        go_wp2
        go_ret
        exact ⟨rfl, b4⟩
      · have e : U (v &&& 255#32) = 32 := by rw [h32]; rfl
        clear h32
        go_enter Try.func9, Try.ntmps9
        go_wp2_with fail
        refine (alive3_any w).mono ?_
        rintro e wa ⟨rfl, hBa⟩
        go_wp2_with fail
        refine (begin_st w.heap.size 2 5 wa hBa.size (by omega) (by omega) (by omega) (by omega)).mono ?_
        rintro e w1 ⟨p, f, rfl, s0, t1⟩
        have b1 := hBa.trans t1
        have s1 : St w.heap.size p f ordM (w1.alloc (.cells #[.int .u32 0, .int .u32 32, .int .u32 96] 30)) := s0.alloc _
        have b2 := b1.alloc (B := w.heap.size) s0.size (.cells #[.int .u32 0, .int .u32 32, .int .u32 96] 30)
        clear hBa t1 s0 b1
        go_wp2_with fail
        refine (s1.write ordM_ok 0 v).mono ?_
        rintro e w3 ⟨rfl, s3, t3⟩
        have b4 := b2.trans t3
        clear b2 t3 s1 s3
        go_wp2
        go_ret
        exact ⟨rfl, b4⟩
      · have e : U (v &&& 255#32) = 96 := by rw [h96]; rfl
        clear h96
        go_enter Try.func9, Try.ntmps9
        go_wp2_with fail
        refine (alive3_any w).mono ?_
        rintro e wa ⟨rfl, hBa⟩
        go_wp2_with fail
        refine (begin_st w.heap.size 2 5 wa hBa.size (by omega) (by omega) (by omega) (by omega)).mono ?_
        rintro e w1 ⟨p, f, rfl, s0, t1⟩
        have b1 := hBa.trans t1
        have s1 : St w.heap.size p f ordM (w1.alloc (.cells #[.int .u32 0, .int .u32 32, .int .u32 96] 30)) := s0.alloc _
        have b2 := b1.alloc (B := w.heap.size) s0.size (.cells #[.int .u32 0, .int .u32 32, .int .u32 96] 30)
        clear hBa t1 s0 b1
        go_wp2_with fail
        refine (s1.write ordM_ok 0 v).mono ?_
        rintro e w3 ⟨rfl, s3, t3⟩
        have b4 := b2.trans t3
        clear b2 t3 s1 s3
        go_wp2
        go_ret
        exact ⟨rfl, b4⟩
    · have E := Lib.hid (ord_bad v hk)
      unfold Known at hk
      simp only [not_or] at hk
      obtain ⟨h255, h112, h144, h152, h80, h64, h32, h96⟩ := hk
      have q255 : (U (v &&& 255#32) == 255) = false := U_beq_false (y := 255#32) h255
      have q112 : (U (v &&& 255#32) == 112) = false := U_beq_false (y := 112#32) h112
      have q144 : (U (v &&& 255#32) == 144) = false := U_beq_false (y := 144#32) h144
      have q152 : (U (v &&& 255#32) == 152) = false := U_beq_false (y := 152#32) h152
      have q80 : (U (v &&& 255#32) == 80) = false := U_beq_false (y := 80#32) h80
      have q64 : (U (v &&& 255#32) == 64) = false := U_beq_false (y := 64#32) h64
      have q32 : (U (v &&& 255#32) == 32) = false := U_beq_false (y := 32#32) h32
      have q96 : (U (v &&& 255#32) == 96) = false := U_beq_false (y := 96#32) h96
      clear h255 h112 h144 h152 h80 h64 h32 h96
      go_enter Try.func9, Try.ntmps9
      go_wp2_with fail
      refine (alive3_any w).mono ?_
      rintro e wa ⟨rfl, hBa⟩
      go_wp2_with fail
      refine (begin_st w.heap.size 2 5 wa hBa.size (by omega) (by omega) (by omega) (by omega)).mono ?_
      rintro e w1 ⟨p, f, rfl, s0, t1⟩
      have b1 := hBa.trans t1
      have s1 : St w.heap.size p f ordM (w1.alloc (.cells #[.int .u32 0, .int .u32 32, .int .u32 96] 30)) := s0.alloc _
      have b2 := b1.alloc (B := w.heap.size) s0.size (.cells #[.int .u32 0, .int .u32 32, .int .u32 96] 30)
      clear hBa t1 s0 b1
      go_wp2_with fail
      refine (s1.writeTo ordM_ok 0 _ v rfl E.out).mono ?_
      rintro e w3 ⟨rfl, s3, t3⟩
      have b4 := b2.trans t3
      clear b2 t3 s1
      go_wp2_with fail
      refine (s3.statusTo errM_ok (xi := 176) errM_status rfl).mono ?_
      rintro e w' ⟨rfl, rfl⟩
      go_wp2_with fail
      refine (s3.writeTo errM_ok 0 80 80#32 rfl ord_clear).mono ?_
      rintro e w4 ⟨rfl, s4, t4⟩
      have b5 := b4.trans t4
      clear b4 t4 s3
      go_wp2_with fail
      refine (s4.statusTo clrM_ok (xi := 128) clrM_status rfl).mono ?_
      rintro e w' ⟨rfl, rfl⟩
      go_wp2_with fail
      refine (s4.wordsAt clrM_ok 128 ordM_len).mono ?_
      rintro e w5 ⟨g, cap, rfl, hcell, hcap, hmax, t5⟩
      have g0 := hcell 0 (by omega)
      rw [clrM_wd, show U 4294967295#32 = 4294967295 from rfl] at g0
      have b6 := b5.trans (t5.mono b5.size)
      have HCL := Lib.hid hcell
      clear hcell b5 t5 s4
      go_wp2
      go_ret
      exact ⟨rfl, b6⟩
  · by_cases h208 : v &&& 255#32 = 208#32
    · have q208 : (U (v &&& 255#32) == 208) = true := U_beq_true (y := 208#32) h208
      have e : U (v &&& 255#32) = 208 := by rw [h208]; rfl
      clear h208
      go_enter Try.func9, Try.ntmps9
      go_wp2_with fail
      refine (alive3_any w).mono ?_
      rintro e wa ⟨rfl, hBa⟩
      go_wp2_with fail
      refine (begin_st w.heap.size 2 5 wa hBa.size (by omega) (by omega) (by omega) (by omega)).mono ?_
      rintro e w1 ⟨p, f, rfl, s0, t1⟩
      have b1 := hBa.trans t1
      have s1 : St w.heap.size p f ordM (w1.alloc (.cells #[.int .u32 0, .int .u32 32, .int .u32 96] 30)) := s0.alloc _
      have b2 := b1.alloc (B := w.heap.size) s0.size (.cells #[.int .u32 0, .int .u32 32, .int .u32 96] 30)
      clear hBa t1 s0 b1
      go_wp2_with fail
      refine (s1.writeTo ordM_ok 0 32 32#32 rfl ord_wait32).mono ?_
      rintro e w2 ⟨rfl, s2, t2⟩
      have b3 := b2.trans t2
      clear b2 t2 s1
      go_wp2_with fail
      refine (s2.write (waitM_ok 32 (by simp)) 0 v).mono ?_
      rintro e w3 ⟨rfl, s3, t3⟩
      have b4 := b3.trans t3
      clear b3 t3 s2 s3
      go_wp2
      go_ret
      exact ⟨rfl, b4⟩
    · have E := Lib.hid (ord_bad32 v h208)
      have q208 : (U (v &&& 255#32) == 208) = false := U_beq_false (y := 208#32) h208
      clear h208
      go_enter Try.func9, Try.ntmps9
      go_wp2_with fail
      refine (alive3_any w).mono ?_
      rintro e wa ⟨rfl, hBa⟩
      go_wp2_with fail
      refine (begin_st w.heap.size 2 5 wa hBa.size (by omega) (by omega) (by omega) (by omega)).mono ?_
      rintro e w1 ⟨p, f, rfl, s0, t1⟩
      have b1 := hBa.trans t1
      have s1 : St w.heap.size p f ordM (w1.alloc (.cells #[.int .u32 0, .int .u32 32, .int .u32 96] 30)) := s0.alloc _
      have b2 := b1.alloc (B := w.heap.size) s0.size (.cells #[.int .u32 0, .int .u32 32, .int .u32 96] 30)
      clear hBa t1 s0 b1
      go_upto_region 8 with fail
      go_cut [8, 9] (fun s8 s9 wx => s8 = .int .u32 (U (v &&& 255#32)) ∧ ∃ kb : Bool, s9 = .bool kb ∧ wx = w1.alloc (.cells #[.int .u32 0, .int .u32 32, .int .u32 96] 30))
      case first =>
        go_wp2_with fail
        all_goals (go_meet; exact ⟨by first | rfl | simp [*], _, rfl, rfl⟩)
      case rest =>
      obtain ⟨rfl, kb, rfl, rfl⟩ := hcut
      go_wp2_with fail
      refine (s1.writeTo ordM_ok 0 32 32#32 rfl ord_wait32).mono ?_
      rintro e w2 ⟨rfl, s2, t2⟩
      have b3 := b2.trans t2
      clear b2 t2 s1
      go_wp2_with fail
      refine (s2.writeTo (waitM_ok 32 (by simp)) 0 _ v rfl E.out).mono ?_
      rintro e w3 ⟨rfl, s3, t3⟩
      have b4 := b3.trans t3
      clear b3 t3 s2
      go_wp2_with fail
      refine (s3.statusTo errM_ok (xi := 176) errM_status rfl).mono ?_
      rintro e w' ⟨rfl, rfl⟩
      go_wp2_with fail
      refine (s3.writeTo errM_ok 0 80 80#32 rfl ord_clear).mono ?_
      rintro e w4 ⟨rfl, s4, t4⟩
      have b5 := b4.trans t4
      clear b4 t4 s3
      go_wp2_with fail
      refine (s4.statusTo clrM_ok (xi := 128) clrM_status rfl).mono ?_
      rintro e w' ⟨rfl, rfl⟩
      go_wp2_with fail
      refine (s4.wordsAt clrM_ok 128 ordM_len).mono ?_
      rintro e w5 ⟨g, cap, rfl, hcell, hcap, hmax, t5⟩
      have g0 := hcell 0 (by omega)
      rw [clrM_wd, show U 4294967295#32 = 4294967295 from rfl] at g0
      have b6 := b5.trans (t5.mono b5.size)
      have HCL := Lib.hid hcell
      clear hcell b5 t5 s4
      go_wp2
      go_ret
      exact ⟨rfl, b6⟩
  · by_cases h208 : v &&& 255#32 = 208#32
    · have e : U (v &&& 255#32) = 208 := by rw [h208]; rfl
      clear h208
      go_enter Try.func9, Try.ntmps9
      go_wp2_with fail
      refine (alive3_any w).mono ?_
      rintro e wa ⟨rfl, hBa⟩
      go_wp2_with fail
      refine (begin_st w.heap.size 2 5 wa hBa.size (by omega) (by omega) (by omega) (by omega)).mono ?_
      rintro e w1 ⟨p, f, rfl, s0, t1⟩
      have b1 := hBa.trans t1
      have s1 : St w.heap.size p f ordM (w1.alloc (.cells #[.int .u32 0, .int .u32 32, .int .u32 96] 30)) := s0.alloc _
      have b2 := b1.alloc (B := w.heap.size) s0.size (.cells #[.int .u32 0, .int .u32 32, .int .u32 96] 30)
      clear hBa t1 s0 b1
      go_wp2_with fail
      refine (s1.writeTo ordM_ok 0 96 96#32 rfl ord_wait96).mono ?_
      rintro e w2 ⟨rfl, s2, t2⟩
      have b3 := b2.trans t2
      clear b2 t2 s1
      go_wp2_with fail
      refine (s2.write (waitM_ok 96 (by simp)) 0 v).mono ?_
      rintro e w3 ⟨rfl, s3, t3⟩
      have b4 := b3.trans t3
      clear b3 t3 s2 s3
      go_wp2
      go_ret
      exact ⟨rfl, b4⟩
    by_cases h1 : v &&& 255#32 = 1#32
    · have e : U (v &&& 255#32) = 1 := by rw [h1]; rfl
      clear h1 h208
      go_enter Try.func9, Try.ntmps9
      go_wp2_with fail
      refine (alive3_any w).mono ?_
      rintro e wa ⟨rfl, hBa⟩
      go_wp2_with fail
      refine (begin_st w.heap.size 2 5 wa hBa.size (by omega) (by omega) (by omega) (by omega)).mono ?_
      rintro e w1 ⟨p, f, rfl, s0, t1⟩
      have b1 := hBa.trans t1
      have s1 : St w.heap.size p f ordM (w1.alloc (.cells #[.int .u32 0, .int .u32 32, .int .u32 96] 30)) := s0.alloc _
      have b2 := b1.alloc (B := w.heap.size) s0.size (.cells #[.int .u32 0, .int .u32 32, .int .u32 96] 30)
      clear hBa t1 s0 b1
      go_wp2_with fail
      refine (s1.writeTo ordM_ok 0 96 96#32 rfl ord_wait96).mono ?_
      rintro e w2 ⟨rfl, s2, t2⟩
      have b3 := b2.trans t2
      clear b2 t2 s1
      go_wp2_with fail
      refine (s2.write (waitM_ok 96 (by simp)) 0 v).mono ?_
      rintro e w3 ⟨rfl, s3, t3⟩
      have b4 := b3.trans t3
      clear b3 t3 s2 s3
      go_wp2
      go_ret
      exact ⟨rfl, b4⟩
    · have E := Lib.hid (ord_bad96 v h208 h1)
      have q208 : (U (v &&& 255#32) == 208) = false := U_beq_false (y := 208#32) h208
      have q1 : (U (v &&& 255#32) == 1) = false := U_beq_false (y := 1#32) h1
      clear h208 h1
      go_enter Try.func9, Try.ntmps9
      go_wp2_with fail
      refine (alive3_any w).mono ?_
      rintro e wa ⟨rfl, hBa⟩
      go_wp2_with fail
      refine (begin_st w.heap.size 2 5 wa hBa.size (by omega) (by omega) (by omega) (by omega)).mono ?_
      rintro e w1 ⟨p, f, rfl, s0, t1⟩
      have b1 := hBa.trans t1
      have s1 : St w.heap.size p f ordM (w1.alloc (.cells #[.int .u32 0, .int .u32 32, .int .u32 96] 30)) := s0.alloc _
      have b2 := b1.alloc (B := w.heap.size) s0.size (.cells #[.int .u32 0, .int .u32 32, .int .u32 96] 30)
      clear hBa t1 s0 b1
      go_upto_region 8 with fail
      go_cut [8, 9] (fun s8 s9 wx => s8 = .int .u32 (U (v &&& 255#32)) ∧ ∃ kb : Bool, s9 = .bool kb ∧ wx = w1.alloc (.cells #[.int .u32 0, .int .u32 32, .int .u32 96] 30))
      case first =>
        go_wp2_with fail
        all_goals (go_meet; exact ⟨by first | rfl | simp [*], _, rfl, rfl⟩)
      case rest =>
      obtain ⟨rfl, kb, rfl, rfl⟩ := hcut
      go_wp2_with fail
      refine (s1.writeTo ordM_ok 0 96 96#32 rfl ord_wait96).mono ?_
      rintro e w2 ⟨rfl, s2, t2⟩
      have b3 := b2.trans t2
      clear b2 t2 s1
      go_wp2_with fail
      refine (s2.writeTo (waitM_ok 96 (by simp)) 0 _ v rfl E.out).mono ?_
      rintro e w3 ⟨rfl, s3, t3⟩
      have b4 := b3.trans t3
      clear b3 t3 s2
      go_wp2_with fail
      refine (s3.statusTo errM_ok (xi := 176) errM_status rfl).mono ?_
      rintro e w' ⟨rfl, rfl⟩
      go_wp2_with fail
      refine (s3.writeTo errM_ok 0 80 80#32 rfl ord_clear).mono ?_
      rintro e w4 ⟨rfl, s4, t4⟩
      have b5 := b4.trans t4
      clear b4 t4 s3
      go_wp2_with fail
      refine (s4.statusTo clrM_ok (xi := 128) clrM_status rfl).mono ?_
      rintro e w' ⟨rfl, rfl⟩
      go_wp2_with fail
      refine (s4.wordsAt clrM_ok 128 ordM_len).mono ?_
      rintro e w5 ⟨g, cap, rfl, hcell, hcap, hmax, t5⟩
      have g0 := hcell 0 (by omega)
      rw [clrM_wd, show U 4294967295#32 = 4294967295 from rfl] at g0
      have b6 := b5.trans (t5.mono b5.size)
      have HCL := Lib.hid hcell
      clear hcell b5 t5 s4
      go_wp2
      go_ret
      exact ⟨rfl, b6⟩
end Go.Proofs.Yteiegkfoabhikaa
