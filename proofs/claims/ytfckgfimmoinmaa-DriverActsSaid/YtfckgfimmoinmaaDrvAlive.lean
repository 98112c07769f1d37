/- A new driver, as layer driver's statements begin; the helper alive. -/
import Derived.Test.YtfckgfimmoinmaaDrv
import Derived.Test.YtfckgfimmoinmaaWordsEq
namespace Go.Proofs.Ytfckgfimmoinmaa
open Go.RowKit Bm

/-- What Begin makes. -/
def MadeD (B k : Nat) (d : DrvM) (w : World) (e : Ending) (w' : World) : Prop :=
  ∃ p f q, e = .returned (.tuple #[.pointer (some ⟨p, 0, none⟩), .pointer (some ⟨q, 0, none⟩)]) ∧ Dv B p f q k NoBlock d w' ∧ Below B w w'
set_option maxRecDepth 100000 in
theorem begin5_any (B k : Nat) (endure : Int) (w : World) (hB : B ≤ w.heap.size) (k1 : 1 ≤ k) (k2 : k ≤ 64) (e0 : 0 ≤ endure) (e1 : endure ≤ 9223372036854775807) :
    Calls Try.prog 32 #[.int .i64 k, .int .i64 endure] w (MadeD B k ⟨fNew (mNew k endure), 0⟩ w) := by
  go_enter Try.func32, Try.ntmps32
  go_wp2_with fail
  refine (begin_st B k endure w hB k1 k2 e0 e1).mono ?_
  rintro e w1 ⟨p, f, rfl, s0, b1⟩
  have DN := Lib.hid (dnew_any B p f k _ w1 s0 (newOk k endure k1 k2 e0 e1))
  have S0 := Lib.hid s0
  have B1 := Lib.hid b1
  clear s0 b1
  go_wp2_with (go_at_call 13; (refine DN.out.mono ?_); rintro e w2 ⟨q, rfl, s2, b2⟩; have S2 := Lib.hid s2; have B2 := Lib.hid b2; clear s2 b2)
  go_ret2
  exact ⟨p, f, q, rfl, S2.out, B1.out.trans (B2.out.mono S0.out.size)⟩

theorem drvNew_ok (k : Nat) (endure : Int) (k1 : 1 ≤ k) (k2 : k ≤ 64) (e0 : 0 ≤ endure) (e1 : endure ≤ 9223372036854775807) : DrvOk k ⟨fNew (mNew k endure), 0⟩ := ⟨newOk k endure k1 k2 e0 e1, ⟨rfl, rfl, rfl⟩⟩

def al0 : DrvM := ⟨fNew (mNew 2 1), 0⟩
def al1 : DrvM := (dProgram al0 5 [7#32, 8#32]).1
def al2 : DrvM := (dRead al1 5 3).1
def al3 : DrvM := (dErase al2 0).1
def al4 : DrvM := (dErase al3 0).1
theorem al0_ok : DrvOk 2 al0 := drvNew_ok 2 1 (by omega) (by omega) (by omega) (by omega)
theorem al1_ok : DrvOk 2 al1 := program_calm _ _ al0_ok
theorem al2_ok : DrvOk 2 al2 := read_calm al1_ok _ _
theorem al3_ok : DrvOk 2 al3 := erase_calm al2_ok _
theorem al4_ok : DrvOk 2 al4 := erase_calm al3_ok _
theorem al1_e : (dProgram al0 5 [7#32, 8#32]).2 = 0 := by decide +kernel
theorem al2_e : (dRead al1 5 3).2 = ([7#32, 8#32, 4294967295#32], 0) := by decide +kernel
theorem al3_e : (dErase al2 0).2 = 0 := by decide +kernel
theorem al4_e : (dErase al3 0).2 = 5 := by decide +kernel
theorem al1_t : al1.t = 6 := by decide +kernel
theorem al2_t : al2.t = 6 := by decide +kernel
theorem al3_t : al3.t = 26 := by decide +kernel
theorem al4_t : al4.t = 46 := by decide +kernel
theorem al4_w : mWear al4.f.chip 0 = 1 := by decide +kernel
theorem drdN (B : Nat) (w : World) (n : Nat) : Below B w (w.drewN n) := below_drewN B w n
theorem may_below {B : Nat} {K : Nat → Prop} {w w' : World} (t : Turned (May B K) w w') (hB : B ≤ w.heap.size) : Below B w w' := t.below (fun _ h => h.1) hB
theorem reads_at (w : World) (xs : List (BitVec 32)) (hn : xs.length ≤ 1000) : ReadsU (w.alloc (.cells (Us xs).toArray 33)) (some ⟨w.heap.size, 0, none⟩) xs.length xs.length xs :=
  ReadsU.of_at (rest := []) (by simpa using At.news w 33 (Us xs)) (by simp [Us_length]) (by unfold maxLen; omega)

set_option maxRecDepth 100000 in
set_option maxHeartbeats 2000000 in
theorem alive5_any (w : World) : Calls Try.prog 10 #[] w fun e w' => e = .returned (.bool true) ∧ Below w.heap.size w w' := by
  go_enter Try.func10, Try.ntmps10
  go_wp2_with fail
  refine (begin5_any w.heap.size 2 1 w (Nat.le_refl _) (by omega) (by omega) (by omega) (by omega)).mono ?_
  rintro e w1 ⟨p, f, q, rfl, s0, b1⟩
  have c1 := (s0.programNew (d := al0) al0_ok 5 [7#32, 8#32] (by simp) (by omega) (by omega) (by decide +kernel) (by decide +kernel))
  rw [al1_e] at c1
  have C1 := Lib.hid c1
  have B1 := Lib.hid b1
  have Z1 := Lib.hid s0.size
  clear c1 b1 s0
  go_wp2_with (first
    | (go_at_call 28; (refine C1.out.mono ?_); rintro e w2 ⟨rfl, s2, t2⟩; have S2 : Hid (Dv _ _ _ _ _ _ al1 _) := Lib.hid s2; have B2 := Lib.hid (B1.out.trans (may_below t2 Z1.out)); clear s2 t2)
    | (go_at_call 17; (refine (S2.out.read al1_ok 5 3 (by omega) (by omega) (by omega) (by omega)).mono ?_); rintro e w3 ⟨A3, c3, rfl, r3, z3, s3, t3⟩; rw [al2_e] at r3; rw [al2_e]; have R3 := Lib.hid r3; have S3 : Hid (Dv _ _ _ _ _ _ al2 _) := Lib.hid s3; have B3 := Lib.hid (B2.out.trans (may_below t3 S2.out.size)); clear r3 s3 t3)
    | (go_at_call 15; (refine (S4.out.erase al3_ok 0 (by omega) (by omega) (by decide +kernel) (by decide +kernel)).mono ?_); rw [al4_e]; rintro e w5 ⟨rfl, s5, t5⟩; have S5 : Hid (Dv _ _ _ _ _ _ al4 _) := Lib.hid s5; have B5 := Lib.hid (B4.out.trans (may_below t5 S4.out.size)); have R5 := Lib.hid (R4.out.act t5 ka_not); have W5 := Lib.hid (reads_at w5 [7#32, 8#32, 4294967295#32] (by simp)); have R6 := Lib.hid (R5.out.kept ((Below.refl _ w5).alloc (Nat.le_refl _) (.cells (Us [7#32, 8#32, 4294967295#32]).toArray 33))); clear s5 t5)
    | (go_at_call 15; (refine (S3.out.erase al2_ok 0 (by omega) (by omega) (by decide +kernel) (by decide +kernel)).mono ?_); rw [al3_e]; rintro e w4 ⟨rfl, s4, t4⟩; have S4 : Hid (Dv _ _ _ _ _ _ al3 _) := Lib.hid s4; have B4 := Lib.hid (B3.out.trans (may_below t4 S3.out.size)); have R4 := Lib.hid (R3.out.act t4 ka_not); clear s4 t4)
    | (go_at_call 19; (refine (words_eq_any _ _ _ _ _ _ _ _ _ R6.out W5.out (by simp) (by simp)).mono ?_); rintro e w6 ⟨rfl, n6, rfl⟩; rw [decide_eq_true rfl]; have S6 := Lib.hid ((S5.out.below ((Below.refl _ w5).alloc (Nat.le_refl _) (.cells (Us [7#32, 8#32, 4294967295#32]).toArray 33))).below (below_drewN _ _ n6)); have B6 := Lib.hid ((B5.out.alloc B5.out.size (.cells (Us [7#32, 8#32, 4294967295#32]).toArray 33)).trans (below_drewN _ _ n6)))
    | (go_at_call 30; (refine (S6.out.ticks al4_ok).mono ?_); rw [al4_t]; rintro e w7 ⟨rfl, b7⟩; have S7 := Lib.hid (S6.out.below b7); have B7 := Lib.hid (B6.out.trans (b7.mono B6.out.size)); clear b7)
    | (go_at_call 35; (refine (S7.out.blocks al4_ok).mono ?_); rintro e w8 ⟨rfl, b8⟩; have S8 := Lib.hid (S7.out.below b8); have B8 := Lib.hid (B7.out.trans (b8.mono B7.out.size)); clear b8)
    | (go_at_call 34; (refine (S8.out.st.st.wear al4_ok.ok 0).mono ?_); rw [al4_w]; rintro e w9 ⟨rfl, rfl⟩))
  go_ret
  exact ⟨rfl, B8.out⟩
end Go.Proofs.Ytfckgfimmoinmaa
