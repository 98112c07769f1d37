/- The document's answers of layer alu. -/
import Derived.Test.YtffmbpenhgbhnaaAluR
import Derived.Test.YtffmbpenhgbhnaaAluD
namespace Go.Proofs.Ytffmbpenhgbhnaa
open Go.RowKit Bm

set_option maxHeartbeats 2000000 in
theorem div12_14 (a b : BitVec 32) (w : World) : Calls Try.prog 42 #[.int .u32 (U a), .int .u32 (U b), .bool true, .bool false] w fun e w' => e = .returned (.int .u32 (U (aOp 14 a b))) ∧ w' = w := by
  have u0 := U_nonneg a
  have u1 := U_lt a
  have u2 := U_nonneg b
  have u3 := U_lt b
  have wa : IntKind.i64.wrap (U a) = U a := by rw [IntKind.wrap_i64]; omega
  have wb : IntKind.i64.wrap (U b) = U b := by rw [IntKind.wrap_i64]; omega
  have HS := Lib.hid (fun x => signed_any x w)
  clear u0 u1 u2 u3
  by_cases h : b = 0#32
  · have HE : Hid (aOp 14 a b = BitVec.allOnes 32) := Lib.hid (by show (if b = 0#32 then _ else _) = _; rw [if_pos h])
    have hb : U b = 0 := by rw [h]; rfl
    clear h wb
    have wz : IntKind.i64.wrap 0 = 0 := by decide
    have HZ := Lib.hid (signed_any 0#32 w)
    rw [show U 0#32 = 0 from rfl, show (0#32).toInt = 0 from rfl] at HZ
    go_enter Try.func42, Try.ntmps42
    go_wp2_with (first | (go_at_call 31; (with_reducible refine (HS.out _).mono ?_); rintro e w5 ⟨rfl, hq⟩; replace hq := hq.symm; subst hq) | (go_at_call 31; (with_reducible refine HZ.out.mono ?_); rintro e w5 ⟨rfl, hq⟩; replace hq := hq.symm; subst hq))
    go_ret
    exact ⟨ret_u (by rw [HE.out]; rfl), rfl⟩
  · have HE : Hid (aOp 14 a b = uwA ((a.toInt).tdiv (b.toInt))) := Lib.hid (by show (if b = 0#32 then _ else _) = _; rw [if_neg h])
    have hy : b.toInt ≠ 0 := by
      intro e
      exact h (BitVec.eq_of_toInt_eq (by rw [e]; rfl))
    have hb : ¬ U b = 0 := by
      intro e
      exact h (U_inj (by rw [e]; rfl))
    have hq : (b.toInt == 0) = false := by simpa using hy
    have tb := tdiv_b (a.toInt) (b.toInt)
    have xl : -4294967296 ≤ a.toInt ∧ a.toInt ≤ 4294967296 := by
      have := tI_b a
      omega
    have wq : IntKind.i64.wrap ((a.toInt).tdiv (b.toInt)) = (a.toInt).tdiv (b.toInt) := by rw [IntKind.wrap_i64]; omega
    have HW : Hid ((a.toInt).tdiv (b.toInt) % 4294967296 = U (aOp 14 a b)) := Lib.hid (by rw [HE.out, U_uwA])
    clear h tb xl
    go_enter Try.func42, Try.ntmps42
    go_wp2_with (go_at_call 31; (with_reducible refine (HS.out _).mono ?_); rintro e w5 ⟨rfl, hq⟩; replace hq := hq.symm; subst hq)
    go_ret
    exact ⟨ret_u (by first | exact HW.out | exact HW2.out), rfl⟩

set_option maxHeartbeats 2000000 in
theorem div12_16 (a b : BitVec 32) (w : World) : Calls Try.prog 42 #[.int .u32 (U a), .int .u32 (U b), .bool true, .bool true] w fun e w' => e = .returned (.int .u32 (U (aOp 16 a b))) ∧ w' = w := by
  have u0 := U_nonneg a
  have u1 := U_lt a
  have u2 := U_nonneg b
  have u3 := U_lt b
  have wa : IntKind.i64.wrap (U a) = U a := by rw [IntKind.wrap_i64]; omega
  have wb : IntKind.i64.wrap (U b) = U b := by rw [IntKind.wrap_i64]; omega
  have HS := Lib.hid (fun x => signed_any x w)
  clear u0 u1 u2 u3
  by_cases h : b = 0#32
  · have HE : Hid (aOp 16 a b = a) := Lib.hid (by show (if b = 0#32 then _ else _) = _; rw [if_pos h])
    have hb : U b = 0 := by rw [h]; rfl
    clear h wb
    have wz : IntKind.i64.wrap 0 = 0 := by decide
    have HZ := Lib.hid (signed_any 0#32 w)
    rw [show U 0#32 = 0 from rfl, show (0#32).toInt = 0 from rfl] at HZ
    go_enter Try.func42, Try.ntmps42
    go_wp2_with (first | (go_at_call 31; (with_reducible refine (HS.out _).mono ?_); rintro e w5 ⟨rfl, hq⟩; replace hq := hq.symm; subst hq) | (go_at_call 31; (with_reducible refine HZ.out.mono ?_); rintro e w5 ⟨rfl, hq⟩; replace hq := hq.symm; subst hq))
    go_ret
    exact ⟨ret_u (by rw [HE.out]), rfl⟩
  · have HE : Hid (aOp 16 a b = uwA ((a.toInt).tmod (b.toInt))) := Lib.hid (by show (if b = 0#32 then _ else _) = _; rw [if_neg h])
    have hy : b.toInt ≠ 0 := by
      intro e
      exact h (BitVec.eq_of_toInt_eq (by rw [e]; rfl))
    have hb : ¬ U b = 0 := by
      intro e
      exact h (U_inj (by rw [e]; rfl))
    have hq : (b.toInt == 0) = false := by simpa using hy
    have tb := tmod_b (a.toInt) (b.toInt)
    have xl : -4294967296 ≤ a.toInt ∧ a.toInt ≤ 4294967296 := by
      have := tI_b a
      omega
    have wq : IntKind.i64.wrap ((a.toInt).tmod (b.toInt)) = (a.toInt).tmod (b.toInt) := by rw [IntKind.wrap_i64]; omega
    have HW : Hid ((a.toInt).tmod (b.toInt) % 4294967296 = U (aOp 16 a b)) := Lib.hid (by rw [HE.out, U_uwA])
    clear h tb xl
    go_enter Try.func42, Try.ntmps42
    go_wp2_with (go_at_call 31; (with_reducible refine (HS.out _).mono ?_); rintro e w5 ⟨rfl, hq⟩; replace hq := hq.symm; subst hq)
    go_ret
    exact ⟨ret_u (by first | exact HW.out | exact HW2.out), rfl⟩

set_option maxHeartbeats 2000000 in
theorem div12_15 (a b : BitVec 32) (w : World) : Calls Try.prog 42 #[.int .u32 (U a), .int .u32 (U b), .bool false, .bool false] w fun e w' => e = .returned (.int .u32 (U (aOp 15 a b))) ∧ w' = w := by
  have u0 := U_nonneg a
  have u1 := U_lt a
  have u2 := U_nonneg b
  have u3 := U_lt b
  have wa : IntKind.i64.wrap (U a) = U a := by rw [IntKind.wrap_i64]; omega
  have wb : IntKind.i64.wrap (U b) = U b := by rw [IntKind.wrap_i64]; omega
  have HS := Lib.hid (fun x => signed_any x w)
  clear u0 u1 u2 u3
  by_cases h : b = 0#32
  · have HE : Hid (aOp 15 a b = BitVec.allOnes 32) := Lib.hid (by show (if b = 0#32 then _ else _) = _; rw [if_pos h])
    have hb : U b = 0 := by rw [h]; rfl
    clear h wb
    have wz : IntKind.i64.wrap 0 = 0 := by decide
    have HZ := Lib.hid (signed_any 0#32 w)
    rw [show U 0#32 = 0 from rfl, show (0#32).toInt = 0 from rfl] at HZ
    go_enter Try.func42, Try.ntmps42
    go_wp2
    go_ret
    exact ⟨ret_u (by rw [HE.out]; rfl), rfl⟩
  · have HE : Hid (aOp 15 a b = uwA ((U a).tdiv (U b))) := Lib.hid (by show (if b = 0#32 then _ else _) = _; rw [if_neg h])
    have hy : U b ≠ 0 := by
      intro e
      exact h (U_inj (by rw [e]; rfl))
    have hb : ¬ U b = 0 := by
      intro e
      exact h (U_inj (by rw [e]; rfl))
    have hq : (U b == 0) = false := by simpa using hy
    have tb := tdiv_b (U a) (U b)
    have xl : -4294967296 ≤ U a ∧ U a ≤ 4294967296 := by
      have := U_nonneg a; have := U_lt a
      omega
    have wq : IntKind.i64.wrap ((U a).tdiv (U b)) = (U a).tdiv (U b) := by rw [IntKind.wrap_i64]; omega
    have HW : Hid ((U a).tdiv (U b) % 4294967296 = U (aOp 15 a b)) := Lib.hid (by rw [HE.out, U_uwA])
    clear h tb xl
    go_enter Try.func42, Try.ntmps42
    go_wp2
    go_ret
    exact ⟨ret_u (by first | exact HW.out | exact HW2.out), rfl⟩

set_option maxHeartbeats 2000000 in
theorem div12_17 (a b : BitVec 32) (w : World) : Calls Try.prog 42 #[.int .u32 (U a), .int .u32 (U b), .bool false, .bool true] w fun e w' => e = .returned (.int .u32 (U (aOp 17 a b))) ∧ w' = w := by
  have u0 := U_nonneg a
  have u1 := U_lt a
  have u2 := U_nonneg b
  have u3 := U_lt b
  have wa : IntKind.i64.wrap (U a) = U a := by rw [IntKind.wrap_i64]; omega
  have wb : IntKind.i64.wrap (U b) = U b := by rw [IntKind.wrap_i64]; omega
  have HS := Lib.hid (fun x => signed_any x w)
  clear u0 u1 u2 u3
  by_cases h : b = 0#32
  · have HE : Hid (aOp 17 a b = a) := Lib.hid (by show (if b = 0#32 then _ else _) = _; rw [if_pos h])
    have hb : U b = 0 := by rw [h]; rfl
    clear h wb
    have wz : IntKind.i64.wrap 0 = 0 := by decide
    have HZ := Lib.hid (signed_any 0#32 w)
    rw [show U 0#32 = 0 from rfl, show (0#32).toInt = 0 from rfl] at HZ
    go_enter Try.func42, Try.ntmps42
    go_wp2
    go_ret
    exact ⟨ret_u (by rw [HE.out]), rfl⟩
  · have HE : Hid (aOp 17 a b = uwA ((U a).tmod (U b))) := Lib.hid (by show (if b = 0#32 then _ else _) = _; rw [if_neg h])
    have hy : U b ≠ 0 := by
      intro e
      exact h (U_inj (by rw [e]; rfl))
    have hb : ¬ U b = 0 := by
      intro e
      exact h (U_inj (by rw [e]; rfl))
    have hq : (U b == 0) = false := by simpa using hy
    have tb := tmod_b (U a) (U b)
    have xl : -4294967296 ≤ U a ∧ U a ≤ 4294967296 := by
      have := U_nonneg a; have := U_lt a
      omega
    have wq : IntKind.i64.wrap ((U a).tmod (U b)) = (U a).tmod (U b) := by rw [IntKind.wrap_i64]; omega
    have HW : Hid ((U a).tmod (U b) % 4294967296 = U (aOp 17 a b)) := Lib.hid (by rw [HE.out, U_uwA])
    clear h tb xl
    go_enter Try.func42, Try.ntmps42
    go_wp2
    go_ret
    exact ⟨ret_u (by first | exact HW.out | exact HW2.out), rfl⟩

theorem ret_ub {a b : Int} {c d : Bool} (h : a = b) (h2 : c = d) : Ending.returned (.tuple #[.int .u32 a, .bool c]) = Ending.returned (.tuple #[.int .u32 b, .bool d]) := by rw [h, h2]

theorem prod12_38 (a b : BitVec 32) (w : World) : Calls Try.prog 32 #[.int .i64 38, .int .u32 (U a), .int .u32 (U b)] w fun e w' => e = .returned (.int .u32 (U (aOp 10 a b))) ∧ w' = w := by
  go_enter Try.func32, Try.ntmps32
  go_wp2
  go_ret
  exact ⟨ret_u (U_mul a b), rfl⟩

theorem prod12_39 (a b : BitVec 32) (w : World) : Calls Try.prog 32 #[.int .i64 39, .int .u32 (U a), .int .u32 (U b)] w fun e w' => e = .returned (.int .u32 (U (aOp 11 a b))) ∧ w' = w := by
  have HX := Lib.hid (high_2 a b w)
  go_enter Try.func32, Try.ntmps32
  go_wp2_with (go_at_call 41; (with_reducible refine HX.out.mono ?_); rintro e w5 ⟨rfl, hq⟩; replace hq := hq.symm; subst hq)
  go_ret
  exact ⟨rfl, rfl⟩

theorem prod12_40 (a b : BitVec 32) (w : World) : Calls Try.prog 32 #[.int .i64 40, .int .u32 (U a), .int .u32 (U b)] w fun e w' => e = .returned (.int .u32 (U (aOp 12 a b))) ∧ w' = w := by
  have HX := Lib.hid (high_1 a b w)
  go_enter Try.func32, Try.ntmps32
  go_wp2_with (go_at_call 41; (with_reducible refine HX.out.mono ?_); rintro e w5 ⟨rfl, hq⟩; replace hq := hq.symm; subst hq)
  go_ret
  exact ⟨rfl, rfl⟩

theorem prod12_41 (a b : BitVec 32) (w : World) : Calls Try.prog 32 #[.int .i64 41, .int .u32 (U a), .int .u32 (U b)] w fun e w' => e = .returned (.int .u32 (U (aOp 13 a b))) ∧ w' = w := by
  have HX := Lib.hid (high_0 a b w)
  go_enter Try.func32, Try.ntmps32
  go_wp2_with (go_at_call 41; (with_reducible refine HX.out.mono ?_); rintro e w5 ⟨rfl, hq⟩; replace hq := hq.symm; subst hq)
  go_ret
  exact ⟨rfl, rfl⟩

theorem prod12_42 (a b : BitVec 32) (w : World) : Calls Try.prog 32 #[.int .i64 42, .int .u32 (U a), .int .u32 (U b)] w fun e w' => e = .returned (.int .u32 (U (aOp 14 a b))) ∧ w' = w := by
  have HX := Lib.hid (div12_14 a b w)
  go_enter Try.func32, Try.ntmps32
  go_wp2_with (go_at_call 42; (with_reducible refine HX.out.mono ?_); rintro e w5 ⟨rfl, hq⟩; replace hq := hq.symm; subst hq)
  go_ret
  exact ⟨rfl, rfl⟩

theorem prod12_43 (a b : BitVec 32) (w : World) : Calls Try.prog 32 #[.int .i64 43, .int .u32 (U a), .int .u32 (U b)] w fun e w' => e = .returned (.int .u32 (U (aOp 15 a b))) ∧ w' = w := by
  have HX := Lib.hid (div12_15 a b w)
  go_enter Try.func32, Try.ntmps32
  go_wp2_with (go_at_call 42; (with_reducible refine HX.out.mono ?_); rintro e w5 ⟨rfl, hq⟩; replace hq := hq.symm; subst hq)
  go_ret
  exact ⟨rfl, rfl⟩

theorem prod12_44 (a b : BitVec 32) (w : World) : Calls Try.prog 32 #[.int .i64 44, .int .u32 (U a), .int .u32 (U b)] w fun e w' => e = .returned (.int .u32 (U (aOp 16 a b))) ∧ w' = w := by
  have HX := Lib.hid (div12_16 a b w)
  go_enter Try.func32, Try.ntmps32
  go_wp2_with (go_at_call 42; (with_reducible refine HX.out.mono ?_); rintro e w5 ⟨rfl, hq⟩; replace hq := hq.symm; subst hq)
  go_ret
  exact ⟨rfl, rfl⟩

theorem prod12_45 (a b : BitVec 32) (w : World) : Calls Try.prog 32 #[.int .i64 45, .int .u32 (U a), .int .u32 (U b)] w fun e w' => e = .returned (.int .u32 (U (aOp 17 a b))) ∧ w' = w := by
  have HX := Lib.hid (div12_17 a b w)
  go_enter Try.func32, Try.ntmps32
  go_wp2_with (go_at_call 42; (with_reducible refine HX.out.mono ?_); rintro e w5 ⟨rfl, hq⟩; replace hq := hq.symm; subst hq)
  go_ret
  exact ⟨rfl, rfl⟩

/-- What the document's answer is, said of the name's number m with registers. -/
def DoTo (a b : BitVec 32) (m : Int) (r : BitVec 32) (s : Bool) : Prop := r = (if s then aOp (m - 28).toNat a b else 0#32) ∧ s = (decide (28 ≤ m) && decide (m ≤ 45))
theorem do_to (n : Int) (a b : BitVec 32) : DoTo a b (sameN n) (doM n a b) (doIs n) := ⟨rfl, rfl⟩
theorem DoTo.yes {a b : BitVec 32} {m : Int} {r : BitVec 32} {s : Bool} (h : DoTo a b m r s) (h0 : 28 ≤ m) (h1 : m ≤ 45) : r = aOp (m - 28).toNat a b ∧ s = true := by
  have e : s = true := by rw [h.2]; simp [h0, h1]
  refine ⟨?_, e⟩
  rw [h.1, e]
  rfl
theorem DoTo.no {a b : BitVec 32} {m : Int} {r : BitVec 32} {s : Bool} (h : DoTo a b m r s) (hm : m < 28 ∨ 45 < m) : r = 0#32 ∧ s = false := by
  have e : s = false := by rw [h.2]; simp; omega
  refine ⟨?_, e⟩
  rw [h.1, e]
  rfl

theorem rdo12_28 (n : Int) (a b : BitVec 32) (w : World) (HS : Hid (Calls Try.prog 28 #[.int .i64 n] w fun e w' => e = .returned (.int .i64 28) ∧ Below w.heap.size w w')) :
    Calls Try.prog 13 #[.int .i64 n, .int .u32 (U a), .int .u32 (U b)] w fun e w' => e = .returned (.tuple #[.int .u32 (U (aOp 0 a b)), .bool true]) ∧ Below w.heap.size w w' := by
  go_enter Try.func13, Try.ntmps13
  go_wp2_with (first | (go_at_call 28; (with_reducible refine HS.out.mono ?_); rintro e w1 ⟨rfl, hb1⟩))
  go_ret2
  exact ⟨ret_ub (U_add a b) rfl, hb1⟩

theorem rdo12_29 (n : Int) (a b : BitVec 32) (w : World) (HS : Hid (Calls Try.prog 28 #[.int .i64 n] w fun e w' => e = .returned (.int .i64 29) ∧ Below w.heap.size w w')) :
    Calls Try.prog 13 #[.int .i64 n, .int .u32 (U a), .int .u32 (U b)] w fun e w' => e = .returned (.tuple #[.int .u32 (U (aOp 1 a b)), .bool true]) ∧ Below w.heap.size w w' := by
  go_enter Try.func13, Try.ntmps13
  go_wp2_with (first | (go_at_call 28; (with_reducible refine HS.out.mono ?_); rintro e w1 ⟨rfl, hb1⟩))
  go_ret2
  exact ⟨ret_ub (U_sub a b) rfl, hb1⟩

theorem rdo12_30 (n : Int) (a b : BitVec 32) (w : World) (HS : Hid (Calls Try.prog 28 #[.int .i64 n] w fun e w' => e = .returned (.int .i64 30) ∧ Below w.heap.size w w')) :
    Calls Try.prog 13 #[.int .i64 n, .int .u32 (U a), .int .u32 (U b)] w fun e w' => e = .returned (.tuple #[.int .u32 (U (aOp 2 a b)), .bool true]) ∧ Below w.heap.size w w' := by
  have HX := Lib.hid (fun W => shift12_0 a b W)
  go_enter Try.func13, Try.ntmps13
  go_wp2_with (first | (go_at_call 28; (with_reducible refine HS.out.mono ?_); rintro e w1 ⟨rfl, hb1⟩) | (go_at_call 29; (with_reducible refine (HX.out _).mono ?_); rintro e w5 ⟨rfl, hq⟩; replace hq := hq.symm; subst hq))
  go_ret2
  exact ⟨rfl, hb1⟩

theorem rdo12_31 (n : Int) (a b : BitVec 32) (w : World) (HS : Hid (Calls Try.prog 28 #[.int .i64 n] w fun e w' => e = .returned (.int .i64 31) ∧ Below w.heap.size w w')) :
    Calls Try.prog 13 #[.int .i64 n, .int .u32 (U a), .int .u32 (U b)] w fun e w' => e = .returned (.tuple #[.int .u32 (U (aOp 3 a b)), .bool true]) ∧ Below w.heap.size w w' := by
  have HX := Lib.hid (fun x W => signed_any x W)
  have HY := Lib.hid (fun s W => one_any s W)
  go_enter Try.func13, Try.ntmps13
  go_wp2_with (first | (go_at_call 28; (with_reducible refine HS.out.mono ?_); rintro e w1 ⟨rfl, hb1⟩) | (go_at_call 31; (with_reducible refine (HX.out _ _).mono ?_); rintro e w5 ⟨rfl, hq⟩; replace hq := hq.symm; subst hq) | (go_at_call 30; (with_reducible refine (HY.out _ _).mono ?_); rintro e w5 ⟨rfl, hq⟩; replace hq := hq.symm; subst hq))
  go_ret2
  exact ⟨rfl, hb1⟩

theorem rdo12_32 (n : Int) (a b : BitVec 32) (w : World) (HS : Hid (Calls Try.prog 28 #[.int .i64 n] w fun e w' => e = .returned (.int .i64 32) ∧ Below w.heap.size w w')) :
    Calls Try.prog 13 #[.int .i64 n, .int .u32 (U a), .int .u32 (U b)] w fun e w' => e = .returned (.tuple #[.int .u32 (U (aOp 4 a b)), .bool true]) ∧ Below w.heap.size w w' := by
  have HY := Lib.hid (fun s W => one_any s W)
  go_enter Try.func13, Try.ntmps13
  go_wp2_with (first | (go_at_call 28; (with_reducible refine HS.out.mono ?_); rintro e w1 ⟨rfl, hb1⟩) | (go_at_call 30; (with_reducible refine (HY.out _ _).mono ?_); rintro e w5 ⟨rfl, hq⟩; replace hq := hq.symm; subst hq))
  go_ret2
  exact ⟨rfl, hb1⟩

theorem rdo12_33 (n : Int) (a b : BitVec 32) (w : World) (HS : Hid (Calls Try.prog 28 #[.int .i64 n] w fun e w' => e = .returned (.int .i64 33) ∧ Below w.heap.size w w')) :
    Calls Try.prog 13 #[.int .i64 n, .int .u32 (U a), .int .u32 (U b)] w fun e w' => e = .returned (.tuple #[.int .u32 (U (aOp 5 a b)), .bool true]) ∧ Below w.heap.size w w' := by
  go_enter Try.func13, Try.ntmps13
  go_wp2_with (first | (go_at_call 28; (with_reducible refine HS.out.mono ?_); rintro e w1 ⟨rfl, hb1⟩))
  go_ret2
  exact ⟨rfl, hb1⟩

theorem rdo12_34 (n : Int) (a b : BitVec 32) (w : World) (HS : Hid (Calls Try.prog 28 #[.int .i64 n] w fun e w' => e = .returned (.int .i64 34) ∧ Below w.heap.size w w')) :
    Calls Try.prog 13 #[.int .i64 n, .int .u32 (U a), .int .u32 (U b)] w fun e w' => e = .returned (.tuple #[.int .u32 (U (aOp 6 a b)), .bool true]) ∧ Below w.heap.size w w' := by
  have HX := Lib.hid (fun W => shift12_1 a b W)
  go_enter Try.func13, Try.ntmps13
  go_wp2_with (first | (go_at_call 28; (with_reducible refine HS.out.mono ?_); rintro e w1 ⟨rfl, hb1⟩) | (go_at_call 29; (with_reducible refine (HX.out _).mono ?_); rintro e w5 ⟨rfl, hq⟩; replace hq := hq.symm; subst hq))
  go_ret2
  exact ⟨rfl, hb1⟩

theorem rdo12_35 (n : Int) (a b : BitVec 32) (w : World) (HS : Hid (Calls Try.prog 28 #[.int .i64 n] w fun e w' => e = .returned (.int .i64 35) ∧ Below w.heap.size w w')) :
    Calls Try.prog 13 #[.int .i64 n, .int .u32 (U a), .int .u32 (U b)] w fun e w' => e = .returned (.tuple #[.int .u32 (U (aOp 7 a b)), .bool true]) ∧ Below w.heap.size w w' := by
  have HX := Lib.hid (fun W => shift12_2 a b W)
  go_enter Try.func13, Try.ntmps13
  go_wp2_with (first | (go_at_call 28; (with_reducible refine HS.out.mono ?_); rintro e w1 ⟨rfl, hb1⟩) | (go_at_call 29; (with_reducible refine (HX.out _).mono ?_); rintro e w5 ⟨rfl, hq⟩; replace hq := hq.symm; subst hq))
  go_ret2
  exact ⟨rfl, hb1⟩

theorem rdo12_36 (n : Int) (a b : BitVec 32) (w : World) (HS : Hid (Calls Try.prog 28 #[.int .i64 n] w fun e w' => e = .returned (.int .i64 36) ∧ Below w.heap.size w w')) :
    Calls Try.prog 13 #[.int .i64 n, .int .u32 (U a), .int .u32 (U b)] w fun e w' => e = .returned (.tuple #[.int .u32 (U (aOp 8 a b)), .bool true]) ∧ Below w.heap.size w w' := by
  go_enter Try.func13, Try.ntmps13
  go_wp2_with (first | (go_at_call 28; (with_reducible refine HS.out.mono ?_); rintro e w1 ⟨rfl, hb1⟩))
  go_ret2
  exact ⟨rfl, hb1⟩

theorem rdo12_37 (n : Int) (a b : BitVec 32) (w : World) (HS : Hid (Calls Try.prog 28 #[.int .i64 n] w fun e w' => e = .returned (.int .i64 37) ∧ Below w.heap.size w w')) :
    Calls Try.prog 13 #[.int .i64 n, .int .u32 (U a), .int .u32 (U b)] w fun e w' => e = .returned (.tuple #[.int .u32 (U (aOp 9 a b)), .bool true]) ∧ Below w.heap.size w w' := by
  go_enter Try.func13, Try.ntmps13
  go_wp2_with (first | (go_at_call 28; (with_reducible refine HS.out.mono ?_); rintro e w1 ⟨rfl, hb1⟩))
  go_ret2
  exact ⟨rfl, hb1⟩

theorem rdo12_38 (n : Int) (a b : BitVec 32) (w : World) (HS : Hid (Calls Try.prog 28 #[.int .i64 n] w fun e w' => e = .returned (.int .i64 38) ∧ Below w.heap.size w w')) :
    Calls Try.prog 13 #[.int .i64 n, .int .u32 (U a), .int .u32 (U b)] w fun e w' => e = .returned (.tuple #[.int .u32 (U (aOp 10 a b)), .bool true]) ∧ Below w.heap.size w w' := by
  have HX := Lib.hid (fun W => prod12_38 a b W)
  go_enter Try.func13, Try.ntmps13
  go_wp2_with (first | (go_at_call 28; (with_reducible refine HS.out.mono ?_); rintro e w1 ⟨rfl, hb1⟩) | (go_at_call 32; (with_reducible refine (HX.out _).mono ?_); rintro e w5 ⟨rfl, hq⟩; replace hq := hq.symm; subst hq))
  go_ret2
  exact ⟨rfl, hb1⟩

theorem rdo12_39 (n : Int) (a b : BitVec 32) (w : World) (HS : Hid (Calls Try.prog 28 #[.int .i64 n] w fun e w' => e = .returned (.int .i64 39) ∧ Below w.heap.size w w')) :
    Calls Try.prog 13 #[.int .i64 n, .int .u32 (U a), .int .u32 (U b)] w fun e w' => e = .returned (.tuple #[.int .u32 (U (aOp 11 a b)), .bool true]) ∧ Below w.heap.size w w' := by
  have HX := Lib.hid (fun W => prod12_39 a b W)
  go_enter Try.func13, Try.ntmps13
  go_wp2_with (first | (go_at_call 28; (with_reducible refine HS.out.mono ?_); rintro e w1 ⟨rfl, hb1⟩) | (go_at_call 32; (with_reducible refine (HX.out _).mono ?_); rintro e w5 ⟨rfl, hq⟩; replace hq := hq.symm; subst hq))
  go_ret2
  exact ⟨rfl, hb1⟩

theorem rdo12_40 (n : Int) (a b : BitVec 32) (w : World) (HS : Hid (Calls Try.prog 28 #[.int .i64 n] w fun e w' => e = .returned (.int .i64 40) ∧ Below w.heap.size w w')) :
    Calls Try.prog 13 #[.int .i64 n, .int .u32 (U a), .int .u32 (U b)] w fun e w' => e = .returned (.tuple #[.int .u32 (U (aOp 12 a b)), .bool true]) ∧ Below w.heap.size w w' := by
  have HX := Lib.hid (fun W => prod12_40 a b W)
  go_enter Try.func13, Try.ntmps13
  go_wp2_with (first | (go_at_call 28; (with_reducible refine HS.out.mono ?_); rintro e w1 ⟨rfl, hb1⟩) | (go_at_call 32; (with_reducible refine (HX.out _).mono ?_); rintro e w5 ⟨rfl, hq⟩; replace hq := hq.symm; subst hq))
  go_ret2
  exact ⟨rfl, hb1⟩

theorem rdo12_41 (n : Int) (a b : BitVec 32) (w : World) (HS : Hid (Calls Try.prog 28 #[.int .i64 n] w fun e w' => e = .returned (.int .i64 41) ∧ Below w.heap.size w w')) :
    Calls Try.prog 13 #[.int .i64 n, .int .u32 (U a), .int .u32 (U b)] w fun e w' => e = .returned (.tuple #[.int .u32 (U (aOp 13 a b)), .bool true]) ∧ Below w.heap.size w w' := by
  have HX := Lib.hid (fun W => prod12_41 a b W)
  go_enter Try.func13, Try.ntmps13
  go_wp2_with (first | (go_at_call 28; (with_reducible refine HS.out.mono ?_); rintro e w1 ⟨rfl, hb1⟩) | (go_at_call 32; (with_reducible refine (HX.out _).mono ?_); rintro e w5 ⟨rfl, hq⟩; replace hq := hq.symm; subst hq))
  go_ret2
  exact ⟨rfl, hb1⟩

theorem rdo12_42 (n : Int) (a b : BitVec 32) (w : World) (HS : Hid (Calls Try.prog 28 #[.int .i64 n] w fun e w' => e = .returned (.int .i64 42) ∧ Below w.heap.size w w')) :
    Calls Try.prog 13 #[.int .i64 n, .int .u32 (U a), .int .u32 (U b)] w fun e w' => e = .returned (.tuple #[.int .u32 (U (aOp 14 a b)), .bool true]) ∧ Below w.heap.size w w' := by
  have HX := Lib.hid (fun W => prod12_42 a b W)
  go_enter Try.func13, Try.ntmps13
  go_wp2_with (first | (go_at_call 28; (with_reducible refine HS.out.mono ?_); rintro e w1 ⟨rfl, hb1⟩) | (go_at_call 32; (with_reducible refine (HX.out _).mono ?_); rintro e w5 ⟨rfl, hq⟩; replace hq := hq.symm; subst hq))
  go_ret2
  exact ⟨rfl, hb1⟩

theorem rdo12_43 (n : Int) (a b : BitVec 32) (w : World) (HS : Hid (Calls Try.prog 28 #[.int .i64 n] w fun e w' => e = .returned (.int .i64 43) ∧ Below w.heap.size w w')) :
    Calls Try.prog 13 #[.int .i64 n, .int .u32 (U a), .int .u32 (U b)] w fun e w' => e = .returned (.tuple #[.int .u32 (U (aOp 15 a b)), .bool true]) ∧ Below w.heap.size w w' := by
  have HX := Lib.hid (fun W => prod12_43 a b W)
  go_enter Try.func13, Try.ntmps13
  go_wp2_with (first | (go_at_call 28; (with_reducible refine HS.out.mono ?_); rintro e w1 ⟨rfl, hb1⟩) | (go_at_call 32; (with_reducible refine (HX.out _).mono ?_); rintro e w5 ⟨rfl, hq⟩; replace hq := hq.symm; subst hq))
  go_ret2
  exact ⟨rfl, hb1⟩

theorem rdo12_44 (n : Int) (a b : BitVec 32) (w : World) (HS : Hid (Calls Try.prog 28 #[.int .i64 n] w fun e w' => e = .returned (.int .i64 44) ∧ Below w.heap.size w w')) :
    Calls Try.prog 13 #[.int .i64 n, .int .u32 (U a), .int .u32 (U b)] w fun e w' => e = .returned (.tuple #[.int .u32 (U (aOp 16 a b)), .bool true]) ∧ Below w.heap.size w w' := by
  have HX := Lib.hid (fun W => prod12_44 a b W)
  go_enter Try.func13, Try.ntmps13
  go_wp2_with (first | (go_at_call 28; (with_reducible refine HS.out.mono ?_); rintro e w1 ⟨rfl, hb1⟩) | (go_at_call 32; (with_reducible refine (HX.out _).mono ?_); rintro e w5 ⟨rfl, hq⟩; replace hq := hq.symm; subst hq))
  go_ret2
  exact ⟨rfl, hb1⟩

theorem rdo12_45 (n : Int) (a b : BitVec 32) (w : World) (HS : Hid (Calls Try.prog 28 #[.int .i64 n] w fun e w' => e = .returned (.int .i64 45) ∧ Below w.heap.size w w')) :
    Calls Try.prog 13 #[.int .i64 n, .int .u32 (U a), .int .u32 (U b)] w fun e w' => e = .returned (.tuple #[.int .u32 (U (aOp 17 a b)), .bool true]) ∧ Below w.heap.size w w' := by
  have HX := Lib.hid (fun W => prod12_45 a b W)
  go_enter Try.func13, Try.ntmps13
  go_wp2_with (first | (go_at_call 28; (with_reducible refine HS.out.mono ?_); rintro e w1 ⟨rfl, hb1⟩) | (go_at_call 32; (with_reducible refine (HX.out _).mono ?_); rintro e w5 ⟨rfl, hq⟩; replace hq := hq.symm; subst hq))
  go_ret2
  exact ⟨rfl, hb1⟩

theorem rdo12_no (n m : Int) (a b : BitVec 32) (w : World) (hm : m < 28 ∨ 45 < m) (HS : Hid (Calls Try.prog 28 #[.int .i64 n] w fun e w' => e = .returned (.int .i64 m) ∧ Below w.heap.size w w')) :
    Calls Try.prog 13 #[.int .i64 n, .int .u32 (U a), .int .u32 (U b)] w fun e w' => e = .returned (.tuple #[.int .u32 0, .bool false]) ∧ Below w.heap.size w w' := by
  rcases hm with h | h
  · go_enter Try.func13, Try.ntmps13
    go_wp2_with (go_at_call 28; (with_reducible refine HS.out.mono ?_); rintro e w1 ⟨rfl, hb1⟩)
    go_ret2
    exact ⟨rfl, hb1⟩
  · have h2 : ¬ m < 28 := by omega
    go_enter Try.func13, Try.ntmps13
    go_wp2_with (go_at_call 28; (with_reducible refine HS.out.mono ?_); rintro e w1 ⟨rfl, hb1⟩)
    go_ret2
    exact ⟨rfl, hb1⟩
theorem rdo_any (n : Int) (a b : BitVec 32) (w : World) (h0 : -9223372036854775808 ≤ n) (h1 : n ≤ 9223372036854775807) : Calls Try.prog 13 #[.int .i64 n, .int .u32 (U a), .int .u32 (U b)] w fun e w' => e = .returned (.tuple #[.int .u32 (U (doM n a b)), .bool (doIs n)]) ∧ Below w.heap.size w w' := by
  have HS := same12_any n w h0 h1
  have HD := do_to n a b
  generalize doM n a b = r at *
  generalize doIs n = s at *
  generalize sameN n = m at *
  by_cases h : 28 ≤ m ∧ m ≤ 45
  · obtain ⟨rfl, rfl⟩ := HD.yes h.1 h.2
    have c : m = 28 ∨ m = 29 ∨ m = 30 ∨ m = 31 ∨ m = 32 ∨ m = 33 ∨ m = 34 ∨ m = 35 ∨ m = 36 ∨ m = 37 ∨ m = 38 ∨ m = 39 ∨ m = 40 ∨ m = 41 ∨ m = 42 ∨ m = 43 ∨ m = 44 ∨ m = 45 := by omega
    rcases c with rfl | rfl | rfl | rfl | rfl | rfl | rfl | rfl | rfl | rfl | rfl | rfl | rfl | rfl | rfl | rfl | rfl | rfl
    · exact rdo12_28 n a b w (Lib.hid HS)
    · exact rdo12_29 n a b w (Lib.hid HS)
    · exact rdo12_30 n a b w (Lib.hid HS)
    · exact rdo12_31 n a b w (Lib.hid HS)
    · exact rdo12_32 n a b w (Lib.hid HS)
    · exact rdo12_33 n a b w (Lib.hid HS)
    · exact rdo12_34 n a b w (Lib.hid HS)
    · exact rdo12_35 n a b w (Lib.hid HS)
    · exact rdo12_36 n a b w (Lib.hid HS)
    · exact rdo12_37 n a b w (Lib.hid HS)
    · exact rdo12_38 n a b w (Lib.hid HS)
    · exact rdo12_39 n a b w (Lib.hid HS)
    · exact rdo12_40 n a b w (Lib.hid HS)
    · exact rdo12_41 n a b w (Lib.hid HS)
    · exact rdo12_42 n a b w (Lib.hid HS)
    · exact rdo12_43 n a b w (Lib.hid HS)
    · exact rdo12_44 n a b w (Lib.hid HS)
    · exact rdo12_45 n a b w (Lib.hid HS)
  · obtain ⟨rfl, rfl⟩ := HD.no (by omega)
    exact rdo12_no n m a b w (by omega) (Lib.hid HS)

theorem rbr12_0 (a b : BitVec 32) (w : World) :
    Calls Try.prog 15 #[.int .i64 5, .int .u32 (U a), .int .u32 (U b)] w fun e w' => e = .returned (.tuple #[.bool (bOp 0 a b), .bool true]) ∧ w' = w := by
  go_enter Try.func15, Try.ntmps15
  go_wp2
  go_ret2
  exact ⟨by show Ending.returned (.tuple #[.bool (U a == U b), .bool true]) = _; rw [U_beq]; rfl, rfl⟩

theorem rbr12_1 (a b : BitVec 32) (w : World) :
    Calls Try.prog 15 #[.int .i64 6, .int .u32 (U a), .int .u32 (U b)] w fun e w' => e = .returned (.tuple #[.bool (bOp 1 a b), .bool true]) ∧ w' = w := by
  go_enter Try.func15, Try.ntmps15
  go_wp2
  go_ret2
  exact ⟨by show Ending.returned (.tuple #[.bool (!(U a == U b)), .bool true]) = _; rw [U_beq]; rfl, rfl⟩

theorem rbr12_2 (a b : BitVec 32) (w : World) :
    Calls Try.prog 15 #[.int .i64 7, .int .u32 (U a), .int .u32 (U b)] w fun e w' => e = .returned (.tuple #[.bool (bOp 2 a b), .bool true]) ∧ w' = w := by
  have HX := Lib.hid (fun x W => signed_any x W)
  go_enter Try.func15, Try.ntmps15
  go_wp2_with (go_at_call 31; (with_reducible refine (HX.out _ _).mono ?_); rintro e w5 ⟨rfl, hq⟩; replace hq := hq.symm; subst hq)
  go_ret2
  exact ⟨rfl, rfl⟩

theorem rbr12_3 (a b : BitVec 32) (w : World) :
    Calls Try.prog 15 #[.int .i64 8, .int .u32 (U a), .int .u32 (U b)] w fun e w' => e = .returned (.tuple #[.bool (bOp 3 a b), .bool true]) ∧ w' = w := by
  have HX := Lib.hid (fun x W => signed_any x W)
  go_enter Try.func15, Try.ntmps15
  go_wp2_with (go_at_call 31; (with_reducible refine (HX.out _ _).mono ?_); rintro e w5 ⟨rfl, hq⟩; replace hq := hq.symm; subst hq)
  go_ret2
  exact ⟨rfl, rfl⟩

theorem rbr12_4 (a b : BitVec 32) (w : World) :
    Calls Try.prog 15 #[.int .i64 9, .int .u32 (U a), .int .u32 (U b)] w fun e w' => e = .returned (.tuple #[.bool (bOp 4 a b), .bool true]) ∧ w' = w := by
  go_enter Try.func15, Try.ntmps15
  go_wp2
  go_ret2
  exact ⟨rfl, rfl⟩

theorem rbr12_5 (a b : BitVec 32) (w : World) :
    Calls Try.prog 15 #[.int .i64 10, .int .u32 (U a), .int .u32 (U b)] w fun e w' => e = .returned (.tuple #[.bool (bOp 5 a b), .bool true]) ∧ w' = w := by
  go_enter Try.func15, Try.ntmps15
  go_wp2
  go_ret2
  exact ⟨rfl, rfl⟩

theorem rbranch_any (n : Int) (a b : BitVec 32) (w : World) (h0 : -9223372036854775808 ≤ n) (h1 : n ≤ 9223372036854775807) : Calls Try.prog 15 #[.int .i64 n, .int .u32 (U a), .int .u32 (U b)] w fun e w' => e = .returned (.tuple #[.bool (brM n a b), .bool (brIs n)]) ∧ w' = w := by
  by_cases h : 5 ≤ n ∧ n ≤ 10
  · have c : n = 5 ∨ n = 6 ∨ n = 7 ∨ n = 8 ∨ n = 9 ∨ n = 10 := by omega
    rcases c with rfl | rfl | rfl | rfl | rfl | rfl
    · exact rbr12_0 a b w
    · exact rbr12_1 a b w
    · exact rbr12_2 a b w
    · exact rbr12_3 a b w
    · exact rbr12_4 a b w
    · exact rbr12_5 a b w
  · have HI : Hid (brIs n = false) := Lib.hid (by unfold brIs; simp; omega)
    have HE : Hid (brM n a b = false) := Lib.hid (by unfold brM; rw [HI.out]; rfl)
    have d5 : ¬ wrap64 (n - 5) = 0 := by unfold wrap64; omega
    have d6 : ¬ wrap64 (n - 5) = 1 := by unfold wrap64; omega
    have d7 : ¬ wrap64 (n - 5) = 2 := by unfold wrap64; omega
    have d8 : ¬ wrap64 (n - 5) = 3 := by unfold wrap64; omega
    have d9 : ¬ wrap64 (n - 5) = 4 := by unfold wrap64; omega
    have d10 : ¬ wrap64 (n - 5) = 5 := by unfold wrap64; omega
    clear h h0 h1
    go_enter Try.func15, Try.ntmps15
    go_wp2
    go_ret2
    exact ⟨by rw [HE.out, HI.out]; rfl, rfl⟩

theorem ram12_0 (a b : BitVec 32) (w : World) :
    Calls Try.prog 17 #[.int .i64 48, .int .u32 (U a), .int .u32 (U b)] w fun e w' => e = .returned (.tuple #[.int .u32 (U (mOp 0 a b)), .bool true]) ∧ w' = w := by
  go_enter Try.func17, Try.ntmps17
  go_wp2
  go_ret2
  exact ⟨rfl, rfl⟩

theorem ram12_1 (a b : BitVec 32) (w : World) :
    Calls Try.prog 17 #[.int .i64 49, .int .u32 (U a), .int .u32 (U b)] w fun e w' => e = .returned (.tuple #[.int .u32 (U (mOp 1 a b)), .bool true]) ∧ w' = w := by
  go_enter Try.func17, Try.ntmps17
  go_wp2
  go_ret2
  exact ⟨ret_ub (U_add a b) rfl, rfl⟩

theorem ram12_2 (a b : BitVec 32) (w : World) :
    Calls Try.prog 17 #[.int .i64 50, .int .u32 (U a), .int .u32 (U b)] w fun e w' => e = .returned (.tuple #[.int .u32 (U (mOp 2 a b)), .bool true]) ∧ w' = w := by
  go_enter Try.func17, Try.ntmps17
  go_wp2
  go_ret2
  exact ⟨rfl, rfl⟩

theorem ram12_3 (a b : BitVec 32) (w : World) :
    Calls Try.prog 17 #[.int .i64 51, .int .u32 (U a), .int .u32 (U b)] w fun e w' => e = .returned (.tuple #[.int .u32 (U (mOp 3 a b)), .bool true]) ∧ w' = w := by
  go_enter Try.func17, Try.ntmps17
  go_wp2
  go_ret2
  exact ⟨rfl, rfl⟩

theorem ram12_4 (a b : BitVec 32) (w : World) :
    Calls Try.prog 17 #[.int .i64 52, .int .u32 (U a), .int .u32 (U b)] w fun e w' => e = .returned (.tuple #[.int .u32 (U (mOp 4 a b)), .bool true]) ∧ w' = w := by
  go_enter Try.func17, Try.ntmps17
  go_wp2
  go_ret2
  exact ⟨rfl, rfl⟩

theorem ram12_5 (a b : BitVec 32) (w : World) :
    Calls Try.prog 17 #[.int .i64 53, .int .u32 (U a), .int .u32 (U b)] w fun e w' => e = .returned (.tuple #[.int .u32 (U (mOp 5 a b)), .bool true]) ∧ w' = w := by
  have HX := Lib.hid (fun W => signed_any a W)
  have HY := Lib.hid (fun W => signed_any b W)
  have HM : Hid (mOp 5 a b = if a.toInt < b.toInt then a else b) := Lib.hid rfl
  generalize a.toInt = x at *
  generalize b.toInt = y at *
  by_cases h : x < y
  · have HC : Hid (∀ W, Calls Try.prog 35 #[.bool true, .int .u32 (U a), .int .u32 (U b)] W fun e w' => e = .returned (.int .u32 (U a)) ∧ w' = W) := Lib.hid (fun W => choose_any true a b W)
    have HE : Hid (mOp 5 a b = a) := Lib.hid (by rw [HM.out, if_pos h])
    have HD : Hid (∀ W, Calls Try.prog 35 #[.bool (decide (x < y)), .int .u32 (U a), .int .u32 (U b)] W fun e w' => e = .returned (.int .u32 (U a)) ∧ w' = W) := Lib.hid (by rw [show decide (x < y) = true from by simpa using h]; exact HC.out)
    go_enter Try.func17, Try.ntmps17
    go_wp2_with (first | (go_at_call 31; (with_reducible refine (HX.out _).mono ?_); rintro e w5 ⟨rfl, hq⟩; replace hq := hq.symm; subst hq) | (go_at_call 31; (with_reducible refine (HY.out _).mono ?_); rintro e w5 ⟨rfl, hq⟩; replace hq := hq.symm; subst hq) | (go_at_call 35; (with_reducible refine (HC.out _).mono ?_); rintro e w5 ⟨rfl, hq⟩; replace hq := hq.symm; subst hq) | (go_at_call 35; (with_reducible refine (HD.out _).mono ?_); rintro e w5 ⟨rfl, hq⟩; replace hq := hq.symm; subst hq))
    go_ret2
    exact ⟨by rw [HE.out]; rfl, rfl⟩
  · have HC : Hid (∀ W, Calls Try.prog 35 #[.bool false, .int .u32 (U a), .int .u32 (U b)] W fun e w' => e = .returned (.int .u32 (U b)) ∧ w' = W) := Lib.hid (fun W => choose_any false a b W)
    have HE : Hid (mOp 5 a b = b) := Lib.hid (by rw [HM.out, if_neg h])
    have HD : Hid (∀ W, Calls Try.prog 35 #[.bool (decide (x < y)), .int .u32 (U a), .int .u32 (U b)] W fun e w' => e = .returned (.int .u32 (U b)) ∧ w' = W) := Lib.hid (by rw [show decide (x < y) = false from by simpa using h]; exact HC.out)
    go_enter Try.func17, Try.ntmps17
    go_wp2_with (first | (go_at_call 31; (with_reducible refine (HX.out _).mono ?_); rintro e w5 ⟨rfl, hq⟩; replace hq := hq.symm; subst hq) | (go_at_call 31; (with_reducible refine (HY.out _).mono ?_); rintro e w5 ⟨rfl, hq⟩; replace hq := hq.symm; subst hq) | (go_at_call 35; (with_reducible refine (HC.out _).mono ?_); rintro e w5 ⟨rfl, hq⟩; replace hq := hq.symm; subst hq) | (go_at_call 35; (with_reducible refine (HD.out _).mono ?_); rintro e w5 ⟨rfl, hq⟩; replace hq := hq.symm; subst hq))
    go_ret2
    exact ⟨by rw [HE.out]; rfl, rfl⟩

theorem ram12_6 (a b : BitVec 32) (w : World) :
    Calls Try.prog 17 #[.int .i64 54, .int .u32 (U a), .int .u32 (U b)] w fun e w' => e = .returned (.tuple #[.int .u32 (U (mOp 6 a b)), .bool true]) ∧ w' = w := by
  have HX := Lib.hid (fun W => signed_any a W)
  have HY := Lib.hid (fun W => signed_any b W)
  have HM : Hid (mOp 6 a b = if b.toInt < a.toInt then a else b) := Lib.hid rfl
  generalize a.toInt = x at *
  generalize b.toInt = y at *
  by_cases h : y < x
  · have HC : Hid (∀ W, Calls Try.prog 35 #[.bool true, .int .u32 (U a), .int .u32 (U b)] W fun e w' => e = .returned (.int .u32 (U a)) ∧ w' = W) := Lib.hid (fun W => choose_any true a b W)
    have HE : Hid (mOp 6 a b = a) := Lib.hid (by rw [HM.out, if_pos h])
    have HD : Hid (∀ W, Calls Try.prog 35 #[.bool (decide (y < x)), .int .u32 (U a), .int .u32 (U b)] W fun e w' => e = .returned (.int .u32 (U a)) ∧ w' = W) := Lib.hid (by rw [show decide (y < x) = true from by simpa using h]; exact HC.out)
    go_enter Try.func17, Try.ntmps17
    go_wp2_with (first | (go_at_call 31; (with_reducible refine (HX.out _).mono ?_); rintro e w5 ⟨rfl, hq⟩; replace hq := hq.symm; subst hq) | (go_at_call 31; (with_reducible refine (HY.out _).mono ?_); rintro e w5 ⟨rfl, hq⟩; replace hq := hq.symm; subst hq) | (go_at_call 35; (with_reducible refine (HC.out _).mono ?_); rintro e w5 ⟨rfl, hq⟩; replace hq := hq.symm; subst hq) | (go_at_call 35; (with_reducible refine (HD.out _).mono ?_); rintro e w5 ⟨rfl, hq⟩; replace hq := hq.symm; subst hq))
    go_ret2
    exact ⟨by rw [HE.out]; rfl, rfl⟩
  · have HC : Hid (∀ W, Calls Try.prog 35 #[.bool false, .int .u32 (U a), .int .u32 (U b)] W fun e w' => e = .returned (.int .u32 (U b)) ∧ w' = W) := Lib.hid (fun W => choose_any false a b W)
    have HE : Hid (mOp 6 a b = b) := Lib.hid (by rw [HM.out, if_neg h])
    have HD : Hid (∀ W, Calls Try.prog 35 #[.bool (decide (y < x)), .int .u32 (U a), .int .u32 (U b)] W fun e w' => e = .returned (.int .u32 (U b)) ∧ w' = W) := Lib.hid (by rw [show decide (y < x) = false from by simpa using h]; exact HC.out)
    go_enter Try.func17, Try.ntmps17
    go_wp2_with (first | (go_at_call 31; (with_reducible refine (HX.out _).mono ?_); rintro e w5 ⟨rfl, hq⟩; replace hq := hq.symm; subst hq) | (go_at_call 31; (with_reducible refine (HY.out _).mono ?_); rintro e w5 ⟨rfl, hq⟩; replace hq := hq.symm; subst hq) | (go_at_call 35; (with_reducible refine (HC.out _).mono ?_); rintro e w5 ⟨rfl, hq⟩; replace hq := hq.symm; subst hq) | (go_at_call 35; (with_reducible refine (HD.out _).mono ?_); rintro e w5 ⟨rfl, hq⟩; replace hq := hq.symm; subst hq))
    go_ret2
    exact ⟨by rw [HE.out]; rfl, rfl⟩

theorem ram12_7 (a b : BitVec 32) (w : World) :
    Calls Try.prog 17 #[.int .i64 55, .int .u32 (U a), .int .u32 (U b)] w fun e w' => e = .returned (.tuple #[.int .u32 (U (mOp 7 a b)), .bool true]) ∧ w' = w := by
  have HM : Hid (mOp 7 a b = if U a < U b then a else b) := Lib.hid rfl
  by_cases h : U a < U b
  · have HC : Hid (∀ W, Calls Try.prog 35 #[.bool true, .int .u32 (U a), .int .u32 (U b)] W fun e w' => e = .returned (.int .u32 (U a)) ∧ w' = W) := Lib.hid (fun W => choose_any true a b W)
    have HE : Hid (mOp 7 a b = a) := Lib.hid (by rw [HM.out, if_pos h])
    have HD : Hid (∀ W, Calls Try.prog 35 #[.bool (decide (U a < U b)), .int .u32 (U a), .int .u32 (U b)] W fun e w' => e = .returned (.int .u32 (U a)) ∧ w' = W) := Lib.hid (by rw [show decide (U a < U b) = true from by simpa using h]; exact HC.out)
    go_enter Try.func17, Try.ntmps17
    go_wp2_with (first | (go_at_call 35; (with_reducible refine (HC.out _).mono ?_); rintro e w5 ⟨rfl, hq⟩; replace hq := hq.symm; subst hq) | (go_at_call 35; (with_reducible refine (HD.out _).mono ?_); rintro e w5 ⟨rfl, hq⟩; replace hq := hq.symm; subst hq))
    go_ret2
    exact ⟨by rw [HE.out]; rfl, rfl⟩
  · have HC : Hid (∀ W, Calls Try.prog 35 #[.bool false, .int .u32 (U a), .int .u32 (U b)] W fun e w' => e = .returned (.int .u32 (U b)) ∧ w' = W) := Lib.hid (fun W => choose_any false a b W)
    have HE : Hid (mOp 7 a b = b) := Lib.hid (by rw [HM.out, if_neg h])
    have HD : Hid (∀ W, Calls Try.prog 35 #[.bool (decide (U a < U b)), .int .u32 (U a), .int .u32 (U b)] W fun e w' => e = .returned (.int .u32 (U b)) ∧ w' = W) := Lib.hid (by rw [show decide (U a < U b) = false from by simpa using h]; exact HC.out)
    go_enter Try.func17, Try.ntmps17
    go_wp2_with (first | (go_at_call 35; (with_reducible refine (HC.out _).mono ?_); rintro e w5 ⟨rfl, hq⟩; replace hq := hq.symm; subst hq) | (go_at_call 35; (with_reducible refine (HD.out _).mono ?_); rintro e w5 ⟨rfl, hq⟩; replace hq := hq.symm; subst hq))
    go_ret2
    exact ⟨by rw [HE.out]; rfl, rfl⟩

theorem ram12_8 (a b : BitVec 32) (w : World) :
    Calls Try.prog 17 #[.int .i64 56, .int .u32 (U a), .int .u32 (U b)] w fun e w' => e = .returned (.tuple #[.int .u32 (U (mOp 8 a b)), .bool true]) ∧ w' = w := by
  have HM : Hid (mOp 8 a b = if U b < U a then a else b) := Lib.hid rfl
  by_cases h : U b < U a
  · have HC : Hid (∀ W, Calls Try.prog 35 #[.bool true, .int .u32 (U a), .int .u32 (U b)] W fun e w' => e = .returned (.int .u32 (U a)) ∧ w' = W) := Lib.hid (fun W => choose_any true a b W)
    have HE : Hid (mOp 8 a b = a) := Lib.hid (by rw [HM.out, if_pos h])
    have HD : Hid (∀ W, Calls Try.prog 35 #[.bool (decide (U b < U a)), .int .u32 (U a), .int .u32 (U b)] W fun e w' => e = .returned (.int .u32 (U a)) ∧ w' = W) := Lib.hid (by rw [show decide (U b < U a) = true from by simpa using h]; exact HC.out)
    go_enter Try.func17, Try.ntmps17
    go_wp2_with (first | (go_at_call 35; (with_reducible refine (HC.out _).mono ?_); rintro e w5 ⟨rfl, hq⟩; replace hq := hq.symm; subst hq) | (go_at_call 35; (with_reducible refine (HD.out _).mono ?_); rintro e w5 ⟨rfl, hq⟩; replace hq := hq.symm; subst hq))
    go_ret2
    exact ⟨by rw [HE.out]; rfl, rfl⟩
  · have HC : Hid (∀ W, Calls Try.prog 35 #[.bool false, .int .u32 (U a), .int .u32 (U b)] W fun e w' => e = .returned (.int .u32 (U b)) ∧ w' = W) := Lib.hid (fun W => choose_any false a b W)
    have HE : Hid (mOp 8 a b = b) := Lib.hid (by rw [HM.out, if_neg h])
    have HD : Hid (∀ W, Calls Try.prog 35 #[.bool (decide (U b < U a)), .int .u32 (U a), .int .u32 (U b)] W fun e w' => e = .returned (.int .u32 (U b)) ∧ w' = W) := Lib.hid (by rw [show decide (U b < U a) = false from by simpa using h]; exact HC.out)
    go_enter Try.func17, Try.ntmps17
    go_wp2_with (first | (go_at_call 35; (with_reducible refine (HC.out _).mono ?_); rintro e w5 ⟨rfl, hq⟩; replace hq := hq.symm; subst hq) | (go_at_call 35; (with_reducible refine (HD.out _).mono ?_); rintro e w5 ⟨rfl, hq⟩; replace hq := hq.symm; subst hq))
    go_ret2
    exact ⟨by rw [HE.out]; rfl, rfl⟩

theorem ramo_any (n : Int) (a b : BitVec 32) (w : World) (h0 : -9223372036854775808 ≤ n) (h1 : n ≤ 9223372036854775807) : Calls Try.prog 17 #[.int .i64 n, .int .u32 (U a), .int .u32 (U b)] w fun e w' => e = .returned (.tuple #[.int .u32 (U (amM n a b)), .bool (amIs n)]) ∧ w' = w := by
  by_cases h : 48 ≤ n ∧ n ≤ 56
  · have c : n = 48 ∨ n = 49 ∨ n = 50 ∨ n = 51 ∨ n = 52 ∨ n = 53 ∨ n = 54 ∨ n = 55 ∨ n = 56 := by omega
    rcases c with rfl | rfl | rfl | rfl | rfl | rfl | rfl | rfl | rfl
    · exact ram12_0 a b w
    · exact ram12_1 a b w
    · exact ram12_2 a b w
    · exact ram12_3 a b w
    · exact ram12_4 a b w
    · exact ram12_5 a b w
    · exact ram12_6 a b w
    · exact ram12_7 a b w
    · exact ram12_8 a b w
  · have HI : Hid (amIs n = false) := Lib.hid (by unfold amIs; simp; omega)
    have HE : Hid (amM n a b = 0#32) := Lib.hid (by unfold amM; rw [HI.out]; rfl)
    have d48 : ¬ wrap64 (n - 48) = 0 := by unfold wrap64; omega
    have d49 : ¬ wrap64 (n - 48) = 1 := by unfold wrap64; omega
    have d50 : ¬ wrap64 (n - 48) = 2 := by unfold wrap64; omega
    have d51 : ¬ wrap64 (n - 48) = 3 := by unfold wrap64; omega
    have d52 : ¬ wrap64 (n - 48) = 4 := by unfold wrap64; omega
    have d53 : ¬ wrap64 (n - 48) = 5 := by unfold wrap64; omega
    have d54 : ¬ wrap64 (n - 48) = 6 := by unfold wrap64; omega
    have d55 : ¬ wrap64 (n - 48) = 7 := by unfold wrap64; omega
    have d56 : ¬ wrap64 (n - 48) = 8 := by unfold wrap64; omega
    clear h h0 h1
    go_enter Try.func17, Try.ntmps17
    go_wp2
    go_ret2
    exact ⟨by rw [HE.out, HI.out]; rfl, rfl⟩

theorem mod_low8 (a : BitVec 32) : U a % 256 = U (a &&& 255#32) := by
  unfold U; rw [BitVec.toNat_and, show (255#32).toNat = 2 ^ 8 - 1 from rfl, Nat.and_two_pow_sub_one_eq_mod]; rfl
theorem mod_low16 (a : BitVec 32) : U a % 65536 = U (a &&& 65535#32) := by
  unfold U; rw [BitVec.toNat_and, show (65535#32).toNat = 2 ^ 16 - 1 from rfl, Nat.and_two_pow_sub_one_eq_mod]; rfl

theorem rld12_0 (a : BitVec 32) (w : World) :
    Calls Try.prog 19 #[.int .i64 11, .int .u32 (U a)] w fun e w' => e = .returned (.tuple #[.int .u32 (U (lOp 0 a)), .bool true]) ∧ w' = w := by
  have u0 := U_nonneg a
  have t : U a % 256 = U (a &&& 255#32) := mod_low8 a
  have t2 : (U a).tmod 256 = U (a &&& 255#32) := by rw [Int.tmod_eq_emod_of_nonneg u0, t]
  have HX := Lib.hid (rsign_any (a &&& 255#32) 8 w)
  go_enter Try.func19, Try.ntmps19
  go_wp2_with (go_at_call 37; (with_reducible refine HX.out.mono ?_); rintro e w5 ⟨rfl, hq⟩; replace hq := hq.symm; subst hq)
  go_ret2
  exact ⟨rfl, rfl⟩

theorem rld12_1 (a : BitVec 32) (w : World) :
    Calls Try.prog 19 #[.int .i64 12, .int .u32 (U a)] w fun e w' => e = .returned (.tuple #[.int .u32 (U (lOp 1 a)), .bool true]) ∧ w' = w := by
  have u0 := U_nonneg a
  have t : U a % 65536 = U (a &&& 65535#32) := mod_low16 a
  have t2 : (U a).tmod 65536 = U (a &&& 65535#32) := by rw [Int.tmod_eq_emod_of_nonneg u0, t]
  have HX := Lib.hid (rsign_any (a &&& 65535#32) 16 w)
  go_enter Try.func19, Try.ntmps19
  go_wp2_with (go_at_call 37; (with_reducible refine HX.out.mono ?_); rintro e w5 ⟨rfl, hq⟩; replace hq := hq.symm; subst hq)
  go_ret2
  exact ⟨rfl, rfl⟩

theorem rld12_2 (a : BitVec 32) (w : World) :
    Calls Try.prog 19 #[.int .i64 13, .int .u32 (U a)] w fun e w' => e = .returned (.tuple #[.int .u32 (U (lOp 2 a)), .bool true]) ∧ w' = w := by
  go_enter Try.func19, Try.ntmps19
  go_wp2
  go_ret2
  exact ⟨rfl, rfl⟩

theorem rld12_3 (a : BitVec 32) (w : World) :
    Calls Try.prog 19 #[.int .i64 14, .int .u32 (U a)] w fun e w' => e = .returned (.tuple #[.int .u32 (U (lOp 3 a)), .bool true]) ∧ w' = w := by
  have u0 := U_nonneg a
  have t : U a % 256 = U (a &&& 255#32) := mod_low8 a
  have t2 : (U a).tmod 256 = U (a &&& 255#32) := by rw [Int.tmod_eq_emod_of_nonneg u0, t]
  go_enter Try.func19, Try.ntmps19
  go_wp2
  go_ret2
  exact ⟨rfl, rfl⟩

theorem rld12_4 (a : BitVec 32) (w : World) :
    Calls Try.prog 19 #[.int .i64 15, .int .u32 (U a)] w fun e w' => e = .returned (.tuple #[.int .u32 (U (lOp 4 a)), .bool true]) ∧ w' = w := by
  have u0 := U_nonneg a
  have t : U a % 65536 = U (a &&& 65535#32) := mod_low16 a
  have t2 : (U a).tmod 65536 = U (a &&& 65535#32) := by rw [Int.tmod_eq_emod_of_nonneg u0, t]
  go_enter Try.func19, Try.ntmps19
  go_wp2
  go_ret2
  exact ⟨rfl, rfl⟩

theorem rload_any (n : Int) (a : BitVec 32) (w : World) (h0 : -9223372036854775808 ≤ n) (h1 : n ≤ 9223372036854775807) : Calls Try.prog 19 #[.int .i64 n, .int .u32 (U a)] w fun e w' => e = .returned (.tuple #[.int .u32 (U (ldM n a)), .bool (ldIs n)]) ∧ w' = w := by
  by_cases h : 11 ≤ n ∧ n ≤ 15
  · have c : n = 11 ∨ n = 12 ∨ n = 13 ∨ n = 14 ∨ n = 15 := by omega
    rcases c with rfl | rfl | rfl | rfl | rfl
    · exact rld12_0 a w
    · exact rld12_1 a w
    · exact rld12_2 a w
    · exact rld12_3 a w
    · exact rld12_4 a w
  · have HI : Hid (ldIs n = false) := Lib.hid (by unfold ldIs; simp; omega)
    have HE : Hid (ldM n a = 0#32) := Lib.hid (by unfold ldM; rw [HI.out]; rfl)
    have d11 : ¬ wrap64 (n - 11) = 0 := by unfold wrap64; omega
    have d12 : ¬ wrap64 (n - 11) = 1 := by unfold wrap64; omega
    have d13 : ¬ wrap64 (n - 11) = 2 := by unfold wrap64; omega
    have d14 : ¬ wrap64 (n - 11) = 3 := by unfold wrap64; omega
    have d15 : ¬ wrap64 (n - 11) = 4 := by unfold wrap64; omega
    clear h h0 h1
    go_enter Try.func19, Try.ntmps19
    go_wp2
    go_ret2
    exact ⟨by rw [HE.out, HI.out]; rfl, rfl⟩

set_option maxHeartbeats 2000000 in
theorem rsize_any (n : Int) (w : World) : Calls Try.prog 21 #[.int .i64 n] w fun e w' => e = .returned (.int .i64 (szM n)) ∧ Below w.heap.size w w' := by
  have LB : ∀ o, Below w.heap.size w (w.alloc o) := fun o => (Below.refl _ w).alloc (Nat.le_refl _) _
  by_cases c : n = 11 ∨ n = 12 ∨ n = 13 ∨ n = 14 ∨ n = 15 ∨ n = 16 ∨ n = 17 ∨ n = 18
  · rcases c with rfl | rfl | rfl | rfl | rfl | rfl | rfl | rfl
    all_goals
      go_enter Try.func21, Try.ntmps21
      go_wp2
      go_ret
      exact ⟨rfl, LB _⟩
  · by_cases h : 46 ≤ n ∧ n ≤ 56
    · have HE : Hid (szM n = 4) := Lib.hid (by unfold szM; rw [if_neg (by omega), if_neg (by omega), if_pos (by omega)])
      have g1 := h.1
      have g2 := h.2
      clear h c
      go_enter Try.func21, Try.ntmps21
      go_wp2
      go_ret
      exact ⟨by rw [HE.out]; rfl, Below.refl _ _⟩
    · have HE : Hid (szM n = 0) := Lib.hid (by unfold szM; rw [if_neg (by omega), if_neg (by omega), if_neg (by omega)])
      have g : n < 11 ∨ 18 < n ∧ n < 46 ∨ 56 < n := by omega
      clear h c
      rcases g with g | g | g
      · go_enter Try.func21, Try.ntmps21
        go_wp2
        go_ret
        exact ⟨by rw [HE.out]; rfl, Below.refl _ _⟩
      · have g1 := g.1
        have g2 := g.2
        go_enter Try.func21, Try.ntmps21
        go_wp2
        go_ret
        exact ⟨by rw [HE.out]; rfl, Below.refl _ _⟩
      · go_enter Try.func21, Try.ntmps21
        go_wp2
        go_ret
        exact ⟨by rw [HE.out]; rfl, Below.refl _ _⟩

end Go.Proofs.Ytffmbpenhgbhnaa
