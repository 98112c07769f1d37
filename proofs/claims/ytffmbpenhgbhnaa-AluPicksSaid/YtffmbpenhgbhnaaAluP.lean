/- The program's operations of layer alu: function values, quotients, halves of products. -/
import Derived.Test.YtffmbpenhgbhnaaAluM
import Derived.Laws.EntriesVeiled
namespace Go.Proofs.Ytffmbpenhgbhnaa
open Go.RowKit Bm

/-- A function value without captures: what it makes of two words. -/
structure Fn2 (n : FuncId) (g : BitVec 32 → BitVec 32 → BitVec 32) : Prop where
  ent : ∀ args w, (callFunc n args).run Try.prog w = .ok (.enter n args) w
  run : ∀ a b w, Calls Try.prog n #[.int .u32 (U a), .int .u32 (U b)] w fun e w' => e = .returned (.int .u32 (U (g a b))) ∧ ∃ n, w' = w.drewN n
/-- A condition of two words. -/
structure Fn2B (n : FuncId) (g : BitVec 32 → BitVec 32 → Bool) : Prop where
  ent : ∀ args w, (callFunc n args).run Try.prog w = .ok (.enter n args) w
  run : ∀ a b w, Calls Try.prog n #[.int .u32 (U a), .int .u32 (U b)] w fun e w' => e = .returned (.bool (g a b)) ∧ w' = w
/-- What is made of one word. -/
structure Fn1 (n : FuncId) (g : BitVec 32 → BitVec 32) : Prop where
  ent : ∀ args w, (callFunc n args).run Try.prog w = .ok (.enter n args) w
  run : ∀ a w, Calls Try.prog n #[.int .u32 (U a)] w fun e w' => e = .returned (.int .u32 (U (g a))) ∧ w' = w
theorem flag_any (s : Bool) (w : World) : Calls Try.prog 73 #[.bool s] w fun e w' => e = .returned (.int .u32 (U (oneB s))) ∧ w' = w := by
  cases s
  · go_enter Try.func73, Try.ntmps73
    go_wp2
    go_ret
    exact ⟨rfl, rfl⟩
  · go_enter Try.func73, Try.ntmps73
    go_wp2
    go_ret
    exact ⟨rfl, rfl⟩

theorem fn_simple1 : Fn2 67 (aOp 0) := by
  refine ⟨fun args w => by kernel_rfl, ?_⟩
  intro a b w
  go_enter Try.func67, Try.ntmps67
  go_wp2
  go_ret
  exact ⟨ret_u (by first | rfl | (rw [IntKind.wrap_u32]; first | exact U_add a b | exact U_sub a b | exact U_mul a b) | exact U_add a b | exact U_sub a b | exact U_mul a b), 0, rfl⟩

theorem fn_simple2 : Fn2 68 (aOp 1) := by
  refine ⟨fun args w => by kernel_rfl, ?_⟩
  intro a b w
  go_enter Try.func68, Try.ntmps68
  go_wp2
  go_ret
  exact ⟨ret_u (by first | rfl | (rw [IntKind.wrap_u32]; first | exact U_add a b | exact U_sub a b | exact U_mul a b) | exact U_add a b | exact U_sub a b | exact U_mul a b), 0, rfl⟩

theorem fn_simple3 : Fn2 69 (aOp 2) := by
  refine ⟨fun args w => by kernel_rfl, ?_⟩
  intro a b w
  obtain ⟨n, hn⟩ : ∃ n : Nat, n = b.toNat % 32 := ⟨_, rfl⟩
  have h32 : n < 32 := by omega
  have hb : U b % 32 = (n : Int) := by unfold U; omega
  have hb2 : (U b).tmod 32 = (n : Int) := by rw [Int.tmod_eq_emod_of_nonneg (U_nonneg b), hb]
  have HE : Hid (aOp 2 a b = a <<< n) := Lib.hid (by rw [hn]; rfl)
  clear hn
  go_enter Try.func69, Try.ntmps69
  go_wp2
  go_ret
  exact ⟨ret_u (by rw [HE.out]; first | rfl | (rw [IntKind.wrap_u32]; exact U_shl a n) | exact U_shl a n), 0, rfl⟩

theorem fn_simple4 : Fn2 70 (aOp 6) := by
  refine ⟨fun args w => by kernel_rfl, ?_⟩
  intro a b w
  obtain ⟨n, hn⟩ : ∃ n : Nat, n = b.toNat % 32 := ⟨_, rfl⟩
  have h32 : n < 32 := by omega
  have hb : U b % 32 = (n : Int) := by unfold U; omega
  have hb2 : (U b).tmod 32 = (n : Int) := by rw [Int.tmod_eq_emod_of_nonneg (U_nonneg b), hb]
  have HE : Hid (aOp 6 a b = a >>> n) := Lib.hid (by rw [hn]; rfl)
  clear hn
  go_enter Try.func70, Try.ntmps70
  go_wp2
  go_ret
  exact ⟨ret_u (by rw [HE.out]; first | rfl | exact U_shr a n), 0, rfl⟩

theorem fn_simple5 : Fn2 71 (aOp 7) := by
  refine ⟨fun args w => by kernel_rfl, ?_⟩
  intro a b w
  obtain ⟨n, hn⟩ : ∃ n : Nat, n = b.toNat % 32 := ⟨_, rfl⟩
  have h32 : n < 32 := by omega
  have hb : U b % 32 = (n : Int) := by unfold U; omega
  have hb2 : (U b).tmod 32 = (n : Int) := by rw [Int.tmod_eq_emod_of_nonneg (U_nonneg b), hb]
  have HE : Hid (U (aOp 7 a b) = U (a.sshiftRight n)) := Lib.hid (by rw [hn]; rfl)
  clear hn
  have wa := wrap32_tI a
  go_enter Try.func71, Try.ntmps71
  go_wp2
  go_ret
  exact ⟨ret_u (by rw [HE.out]; exact U_sshr a n), 0, rfl⟩

theorem fn_simple6 : Fn2 72 (aOp 3) := by
  refine ⟨fun args w => by kernel_rfl, ?_⟩
  intro a b w
  have HF := Lib.hid (fun s => flag_any s w)
  have wa := wrap32_tI a
  have wb := wrap32_tI b
  obtain ⟨x, hx⟩ : ∃ x, x = a.toInt := ⟨_, rfl⟩
  obtain ⟨y, hy⟩ : ∃ y, y = b.toInt := ⟨_, rfl⟩
  rw [← hx] at wa
  rw [← hy] at wb
  have HE : Hid (aOp 3 a b = oneB (decide (x < y))) := Lib.hid (by rw [hx, hy]; rfl)
  clear hx hy
  go_enter Try.func72, Try.ntmps72
  go_wp2_with (go_at_call 73; (with_reducible refine (HF.out _).mono ?_); rintro e w5 ⟨rfl, hq⟩; replace hq := hq.symm; subst hq)
  go_ret
  exact ⟨ret_u (by rw [HE.out]), 0, rfl⟩

theorem fn_simple7 : Fn2 74 (aOp 4) := by
  refine ⟨fun args w => by kernel_rfl, ?_⟩
  intro a b w
  have HF := Lib.hid (fun s => flag_any s w)
  go_enter Try.func74, Try.ntmps74
  go_wp2_with (go_at_call 73; (with_reducible refine (HF.out _).mono ?_); rintro e w5 ⟨rfl, hq⟩; replace hq := hq.symm; subst hq)
  go_ret
  exact ⟨rfl, 0, rfl⟩

theorem fn_simple8 : Fn2 75 (aOp 5) := by
  refine ⟨fun args w => by kernel_rfl, ?_⟩
  intro a b w
  go_enter Try.func75, Try.ntmps75
  go_wp2
  go_ret
  exact ⟨rfl, 0, rfl⟩

theorem fn_simple9 : Fn2 76 (aOp 8) := by
  refine ⟨fun args w => by kernel_rfl, ?_⟩
  intro a b w
  go_enter Try.func76, Try.ntmps76
  go_wp2
  go_ret
  exact ⟨rfl, 0, rfl⟩

theorem fn_simple10 : Fn2 77 (aOp 9) := by
  refine ⟨fun args w => by kernel_rfl, ?_⟩
  intro a b w
  go_enter Try.func77, Try.ntmps77
  go_wp2
  go_ret
  exact ⟨rfl, 0, rfl⟩

theorem fn_product1 : Fn2 78 (aOp 10) := by
  refine ⟨fun args w => by kernel_rfl, ?_⟩
  intro a b w
  go_enter Try.func78, Try.ntmps78
  go_wp2
  go_ret
  exact ⟨ret_u (by first | rfl | (rw [IntKind.wrap_u32]; first | exact U_add a b | exact U_sub a b | exact U_mul a b) | exact U_add a b | exact U_sub a b | exact U_mul a b), 0, rfl⟩

theorem fn_condition1 : Fn2B 43 (bOp 0) := by
  refine ⟨fun args w => by kernel_rfl, ?_⟩
  intro a b w
  go_enter Try.func43, Try.ntmps43
  go_wp2
  go_ret
  exact ⟨by show Ending.returned (.bool (U a == U b)) = _; rw [U_beq]; rfl, rfl⟩

theorem fn_condition2 : Fn2B 44 (bOp 1) := by
  refine ⟨fun args w => by kernel_rfl, ?_⟩
  intro a b w
  go_enter Try.func44, Try.ntmps44
  go_wp2
  go_ret
  exact ⟨by show Ending.returned (.bool (!(U a == U b))) = _; rw [U_beq]; rfl, rfl⟩

theorem fn_condition3 : Fn2B 45 (bOp 2) := by
  refine ⟨fun args w => by kernel_rfl, ?_⟩
  intro a b w
  have wa := wrap32_tI a
  have wb := wrap32_tI b
  obtain ⟨x, hx⟩ : ∃ x, x = a.toInt := ⟨_, rfl⟩
  obtain ⟨y, hy⟩ : ∃ y, y = b.toInt := ⟨_, rfl⟩
  rw [← hx] at wa
  rw [← hy] at wb
  have HE : Hid (bOp 2 a b = decide (x < y)) := Lib.hid (by rw [hx, hy]; rfl)
  clear hx hy
  go_enter Try.func45, Try.ntmps45
  go_wp2
  go_ret
  exact ⟨by rw [HE.out]; rfl, rfl⟩

theorem fn_condition4 : Fn2B 46 (bOp 3) := by
  refine ⟨fun args w => by kernel_rfl, ?_⟩
  intro a b w
  have wa := wrap32_tI a
  have wb := wrap32_tI b
  obtain ⟨x, hx⟩ : ∃ x, x = a.toInt := ⟨_, rfl⟩
  obtain ⟨y, hy⟩ : ∃ y, y = b.toInt := ⟨_, rfl⟩
  rw [← hx] at wa
  rw [← hy] at wb
  have HE : Hid (bOp 3 a b = decide (y ≤ x)) := Lib.hid (by rw [hx, hy]; rfl)
  clear hx hy
  go_enter Try.func46, Try.ntmps46
  go_wp2
  go_ret
  exact ⟨by rw [HE.out]; rfl, rfl⟩

theorem fn_condition5 : Fn2B 47 (bOp 4) := by
  refine ⟨fun args w => by kernel_rfl, ?_⟩
  intro a b w
  go_enter Try.func47, Try.ntmps47
  go_wp2
  go_ret
  exact ⟨rfl, rfl⟩

theorem fn_condition6 : Fn2B 48 (bOp 5) := by
  refine ⟨fun args w => by kernel_rfl, ?_⟩
  intro a b w
  go_enter Try.func48, Try.ntmps48
  go_wp2
  go_ret
  exact ⟨rfl, rfl⟩

theorem fn_exchange1 : Fn2 49 (mOp 0) := by
  refine ⟨fun args w => by kernel_rfl, ?_⟩
  intro a b w
  go_enter Try.func49, Try.ntmps49
  go_wp2
  go_ret
  exact ⟨ret_u (by first | rfl | (rw [IntKind.wrap_u32]; first | exact U_add a b | exact U_sub a b | exact U_mul a b) | exact U_add a b | exact U_sub a b | exact U_mul a b), 0, rfl⟩

theorem fn_exchange2 : Fn2 50 (mOp 1) := by
  refine ⟨fun args w => by kernel_rfl, ?_⟩
  intro a b w
  go_enter Try.func50, Try.ntmps50
  go_wp2
  go_ret
  exact ⟨ret_u (by first | rfl | (rw [IntKind.wrap_u32]; first | exact U_add a b | exact U_sub a b | exact U_mul a b) | exact U_add a b | exact U_sub a b | exact U_mul a b), 0, rfl⟩

theorem fn_exchange3 : Fn2 51 (mOp 2) := by
  refine ⟨fun args w => by kernel_rfl, ?_⟩
  intro a b w
  go_enter Try.func51, Try.ntmps51
  go_wp2
  go_ret
  exact ⟨ret_u (by first | rfl | (rw [IntKind.wrap_u32]; first | exact U_add a b | exact U_sub a b | exact U_mul a b) | exact U_add a b | exact U_sub a b | exact U_mul a b), 0, rfl⟩

theorem fn_exchange4 : Fn2 52 (mOp 3) := by
  refine ⟨fun args w => by kernel_rfl, ?_⟩
  intro a b w
  go_enter Try.func52, Try.ntmps52
  go_wp2
  go_ret
  exact ⟨ret_u (by first | rfl | (rw [IntKind.wrap_u32]; first | exact U_add a b | exact U_sub a b | exact U_mul a b) | exact U_add a b | exact U_sub a b | exact U_mul a b), 0, rfl⟩

theorem fn_exchange5 : Fn2 53 (mOp 4) := by
  refine ⟨fun args w => by kernel_rfl, ?_⟩
  intro a b w
  go_enter Try.func53, Try.ntmps53
  go_wp2
  go_ret
  exact ⟨ret_u (by first | rfl | (rw [IntKind.wrap_u32]; first | exact U_add a b | exact U_sub a b | exact U_mul a b) | exact U_add a b | exact U_sub a b | exact U_mul a b), 0, rfl⟩

theorem upper_any (x y : Int) (w : World) : Calls Try.prog 80 #[.int .u64 (x % 18446744073709551616), .int .u64 (y % 18446744073709551616)] w fun e w' => e = .returned (.int .u32 (U (uwA (x * y / 4294967296)))) ∧ w' = w := by
  have HE := Lib.hid (up_mod x y)
  obtain ⟨p, hp⟩ : ∃ p, p = x % 18446744073709551616 := ⟨_, rfl⟩
  obtain ⟨q, hq⟩ : ∃ q, q = y % 18446744073709551616 := ⟨_, rfl⟩
  have HE2 : Hid (p * q % 18446744073709551616 / 4294967296 % 4294967296 = U (uwA (x * y / 4294967296))) := Lib.hid (by rw [hp, hq]; exact HE.out)
  rw [← hp, ← hq]
  clear HE hp hq
  go_enter Try.func80, Try.ntmps80
  go_wp2
  go_ret
  exact ⟨ret_u (by rw [IntKind.wrap_u64]; exact HE2.out), rfl⟩
theorem usigned_any (a : BitVec 32) (w : World) : Calls Try.prog 81 #[.int .u32 (U a)] w fun e w' => e = .returned (.int .u64 (a.toInt % 18446744073709551616)) ∧ w' = w := by
  have wa := wrap32_tI a
  go_enter Try.func81, Try.ntmps81
  go_wp2
  go_ret
  exact ⟨by rw [← IntKind.wrap_u64]; rfl, rfl⟩
theorem divI_zero (x : Int) (w : World) : Calls Try.prog 85 #[.int .i32 x, .int .i32 0] w fun e w' => e = .returned (.tuple #[.int .i32 (-1), .int .i32 x]) ∧ w' = w := by
  go_enter Try.func85, Try.ntmps85
  go_wp2
  go_ret2
  exact ⟨rfl, rfl⟩
theorem divI_any (x y : Int) (w : World) (hy : y ≠ 0) : Calls Try.prog 85 #[.int .i32 x, .int .i32 y] w fun e w' => e = .returned (.tuple #[.int .i32 (wrap32 (x.tdiv y)), .int .i32 (x.tmod y)]) ∧ w' = w.drew := by
  go_enter Try.func85, Try.ntmps85
  go_wp2
  go_region
  go_wp2
  go_ret2
  exact ⟨rfl, rfl⟩
theorem divU_zero (x : Int) (w : World) : Calls Try.prog 87 #[.int .u32 x, .int .u32 0] w fun e w' => e = .returned (.tuple #[.int .u32 4294967295, .int .u32 x]) ∧ w' = w := by
  go_enter Try.func87, Try.ntmps87
  go_wp2
  go_ret2
  exact ⟨rfl, rfl⟩
theorem divU_any (x y : Int) (w : World) (hy : y ≠ 0) : Calls Try.prog 87 #[.int .u32 x, .int .u32 y] w fun e w' => e = .returned (.tuple #[.int .u32 (x.tdiv y % 4294967296), .int .u32 (x.tmod y)]) ∧ w' = w.drew := by
  go_enter Try.func87, Try.ntmps87
  go_wp2
  go_region
  go_wp2
  go_ret2
  exact ⟨rfl, rfl⟩

theorem fn_product2 : Fn2 79 (aOp 11) := by
  refine ⟨fun args w => by kernel_rfl, ?_⟩
  intro a b w
  have HS := Lib.hid (fun x => usigned_any x w)
  have HU := Lib.hid (upper_any a.toInt b.toInt w)
  go_enter Try.func79, Try.ntmps79
  go_wp2_with (first | (go_at_call 80; (with_reducible refine HU.out.mono ?_); rintro e w5 ⟨rfl, hq⟩; replace hq := hq.symm; subst hq) | (go_at_call 81; (with_reducible refine (HS.out _).mono ?_); rintro e w5 ⟨rfl, hq⟩; replace hq := hq.symm; subst hq))
  go_ret
  exact ⟨rfl, 0, rfl⟩

theorem fn_product3 : Fn2 82 (aOp 12) := by
  refine ⟨fun args w => by kernel_rfl, ?_⟩
  intro a b w
  have HS := Lib.hid (fun x => usigned_any x w)
  have HU := Lib.hid (upper_any a.toInt (U b) w)
  have u0 := U_nonneg b
  have u1 := U_lt b
  have wb : IntKind.u64.wrap (U b) = U b % 18446744073709551616 := by rw [IntKind.wrap_u64]
  go_enter Try.func82, Try.ntmps82
  go_wp2_with (first | (go_at_call 80; (with_reducible refine HU.out.mono ?_); rintro e w5 ⟨rfl, hq⟩; replace hq := hq.symm; subst hq) | (go_at_call 81; (with_reducible refine (HS.out _).mono ?_); rintro e w5 ⟨rfl, hq⟩; replace hq := hq.symm; subst hq))
  go_ret
  exact ⟨rfl, 0, rfl⟩

theorem fn_product4 : Fn2 83 (aOp 13) := by
  refine ⟨fun args w => by kernel_rfl, ?_⟩
  intro a b w
  have HU := Lib.hid (upper_any (U a) (U b) w)
  have u0 := U_nonneg b
  have u1 := U_lt b
  have wb : IntKind.u64.wrap (U b) = U b % 18446744073709551616 := by rw [IntKind.wrap_u64]
  have u2 := U_nonneg a
  have u3 := U_lt a
  have wa : IntKind.u64.wrap (U a) = U a % 18446744073709551616 := by rw [IntKind.wrap_u64]
  go_enter Try.func83, Try.ntmps83
  go_wp2_with (go_at_call 80; (with_reducible refine HU.out.mono ?_); rintro e w5 ⟨rfl, hq⟩; replace hq := hq.symm; subst hq)
  go_ret
  exact ⟨rfl, 0, rfl⟩

theorem fn_product5 : Fn2 84 (aOp 14) := by
  refine ⟨fun args w => by kernel_rfl, ?_⟩
  intro a b w
  by_cases h : b = 0#32
  · have HE : Hid (aOp 14 a b = BitVec.allOnes 32) := Lib.hid (by show (if b = 0#32 then _ else _) = _; rw [if_pos h])
    have HD := Lib.hid (divI_zero a.toInt w)
    have wb : IntKind.i32.wrap (U b) = 0 := by rw [h]; rfl
    have wa := wrap32_tI a
    clear h
    go_enter Try.func84, Try.ntmps84
    go_wp2_with (go_at_call 85; (with_reducible refine HD.out.mono ?_); rintro e w5 ⟨rfl, hq⟩; replace hq := hq.symm; subst hq)
    go_ret
    exact ⟨ret_u (by rw [HE.out]; rfl), 0, rfl⟩
  · have HE : Hid (aOp 14 a b = uwA ((a.toInt).tdiv (b.toInt))) := Lib.hid (by show (if b = 0#32 then _ else _) = _; rw [if_neg h])
    have wb := wrap32_tI b
    have wa := wrap32_tI a
    have hy : b.toInt ≠ 0 := by
      intro e
      exact h (BitVec.eq_of_toInt_eq (by rw [e]; rfl))
    have HD := Lib.hid (divI_any a.toInt b.toInt w hy)
    clear h
    go_enter Try.func84, Try.ntmps84
    go_wp2_with (go_at_call 85; (with_reducible refine HD.out.mono ?_); rintro e w5 ⟨rfl, hq⟩; replace hq := hq.symm; subst hq)
    go_ret
    exact ⟨ret_u (by rw [HE.out]; exact u32_w32 _), 1, rfl⟩

theorem fn_product6 : Fn2 86 (aOp 15) := by
  refine ⟨fun args w => by kernel_rfl, ?_⟩
  intro a b w
  by_cases h : b = 0#32
  · have HE : Hid (aOp 15 a b = BitVec.allOnes 32) := Lib.hid (by show (if b = 0#32 then _ else _) = _; rw [if_pos h])
    have HD := Lib.hid (divU_zero (U a) w)
    have wb : U b = 0 := by rw [h]; rfl
    clear h
    go_enter Try.func86, Try.ntmps86
    go_wp2_with (go_at_call 87; (with_reducible refine HD.out.mono ?_); rintro e w5 ⟨rfl, hq⟩; replace hq := hq.symm; subst hq)
    go_ret
    exact ⟨ret_u (by rw [HE.out]; rfl), 0, rfl⟩
  · have HE : Hid (aOp 15 a b = uwA ((U a).tdiv (U b))) := Lib.hid (by show (if b = 0#32 then _ else _) = _; rw [if_neg h])
    have hy : U b ≠ 0 := by
      intro e
      exact h (U_inj (by rw [e]; rfl))
    have HD := Lib.hid (divU_any (U a) (U b) w hy)
    clear h
    go_enter Try.func86, Try.ntmps86
    go_wp2_with (go_at_call 87; (with_reducible refine HD.out.mono ?_); rintro e w5 ⟨rfl, hq⟩; replace hq := hq.symm; subst hq)
    go_ret
    exact ⟨ret_u (by rw [HE.out]; exact (U_uwA _).symm), 1, rfl⟩

theorem fn_product7 : Fn2 88 (aOp 16) := by
  refine ⟨fun args w => by kernel_rfl, ?_⟩
  intro a b w
  by_cases h : b = 0#32
  · have HE : Hid (aOp 16 a b = a) := Lib.hid (by show (if b = 0#32 then _ else _) = _; rw [if_pos h])
    have HD := Lib.hid (divI_zero a.toInt w)
    have wb : IntKind.i32.wrap (U b) = 0 := by rw [h]; rfl
    have wa := wrap32_tI a
    clear h
    go_enter Try.func88, Try.ntmps88
    go_wp2_with (go_at_call 85; (with_reducible refine HD.out.mono ?_); rintro e w5 ⟨rfl, hq⟩; replace hq := hq.symm; subst hq)
    go_ret
    exact ⟨ret_u (by rw [HE.out]; exact (U_tI a).symm), 0, rfl⟩
  · have HE : Hid (aOp 16 a b = uwA ((a.toInt).tmod (b.toInt))) := Lib.hid (by show (if b = 0#32 then _ else _) = _; rw [if_neg h])
    have wb := wrap32_tI b
    have wa := wrap32_tI a
    have hy : b.toInt ≠ 0 := by
      intro e
      exact h (BitVec.eq_of_toInt_eq (by rw [e]; rfl))
    have HD := Lib.hid (divI_any a.toInt b.toInt w hy)
    clear h
    go_enter Try.func88, Try.ntmps88
    go_wp2_with (go_at_call 85; (with_reducible refine HD.out.mono ?_); rintro e w5 ⟨rfl, hq⟩; replace hq := hq.symm; subst hq)
    go_ret
    exact ⟨ret_u (by rw [HE.out]; exact (U_uwA _).symm), 1, rfl⟩

theorem fn_product8 : Fn2 89 (aOp 17) := by
  refine ⟨fun args w => by kernel_rfl, ?_⟩
  intro a b w
  by_cases h : b = 0#32
  · have HE : Hid (aOp 17 a b = a) := Lib.hid (by show (if b = 0#32 then _ else _) = _; rw [if_pos h])
    have HD := Lib.hid (divU_zero (U a) w)
    have wb : U b = 0 := by rw [h]; rfl
    clear h
    go_enter Try.func89, Try.ntmps89
    go_wp2_with (go_at_call 87; (with_reducible refine HD.out.mono ?_); rintro e w5 ⟨rfl, hq⟩; replace hq := hq.symm; subst hq)
    go_ret
    exact ⟨ret_u (by rw [HE.out]), 0, rfl⟩
  · have HE : Hid (aOp 17 a b = uwA ((U a).tmod (U b))) := Lib.hid (by show (if b = 0#32 then _ else _) = _; rw [if_neg h])
    have hy : U b ≠ 0 := by
      intro e
      exact h (U_inj (by rw [e]; rfl))
    have HD := Lib.hid (divU_any (U a) (U b) w hy)
    clear h
    go_enter Try.func89, Try.ntmps89
    go_wp2_with (go_at_call 87; (with_reducible refine HD.out.mono ?_); rintro e w5 ⟨rfl, hq⟩; replace hq := hq.symm; subst hq)
    go_ret
    exact ⟨ret_u (by rw [HE.out]; exact U_tmod a b), 1, rfl⟩

theorem fn_exchange6 : Fn2 54 (mOp 5) := by
  refine ⟨fun args w => by kernel_rfl, ?_⟩
  intro a b w
  have wa := wrap32_tI a
  have wb := wrap32_tI b
  obtain ⟨x, hx⟩ : ∃ x, x = a.toInt := ⟨_, rfl⟩
  obtain ⟨y, hy⟩ : ∃ y, y = b.toInt := ⟨_, rfl⟩
  rw [← hx] at wa
  rw [← hy] at wb
  have HA : Hid (x % 4294967296 = U a) := Lib.hid (by rw [hx]; exact (U_tI a).symm)
  have HB : Hid (y % 4294967296 = U b) := Lib.hid (by rw [hy]; exact (U_tI b).symm)
  have HE : Hid (mOp 5 a b = if x < y then a else b) := Lib.hid (by rw [hx, hy]; rfl)
  clear hx hy
  go_enter Try.func54, Try.ntmps54
  go_wp2
  all_goals go_ret
  all_goals (refine ⟨ret_u ?_, 0, rfl⟩; rw [HE.out]; have ha := HA.out; have hb := HB.out; split <;> omega)

theorem fn_exchange7 : Fn2 55 (mOp 6) := by
  refine ⟨fun args w => by kernel_rfl, ?_⟩
  intro a b w
  have wa := wrap32_tI a
  have wb := wrap32_tI b
  obtain ⟨x, hx⟩ : ∃ x, x = a.toInt := ⟨_, rfl⟩
  obtain ⟨y, hy⟩ : ∃ y, y = b.toInt := ⟨_, rfl⟩
  rw [← hx] at wa
  rw [← hy] at wb
  have HA : Hid (x % 4294967296 = U a) := Lib.hid (by rw [hx]; exact (U_tI a).symm)
  have HB : Hid (y % 4294967296 = U b) := Lib.hid (by rw [hy]; exact (U_tI b).symm)
  have HE : Hid (mOp 6 a b = if y < x then a else b) := Lib.hid (by rw [hx, hy]; rfl)
  clear hx hy
  go_enter Try.func55, Try.ntmps55
  go_wp2
  all_goals go_ret
  all_goals (refine ⟨ret_u ?_, 0, rfl⟩; rw [HE.out]; have ha := HA.out; have hb := HB.out; split <;> omega)

theorem fn_exchange8 : Fn2 56 (mOp 7) := by
  refine ⟨fun args w => by kernel_rfl, ?_⟩
  intro a b w
  have HE : Hid (mOp 7 a b = if U a < U b then a else b) := Lib.hid rfl
  go_enter Try.func56, Try.ntmps56
  go_wp2
  all_goals go_ret
  all_goals (refine ⟨ret_u ?_, 0, rfl⟩; rw [HE.out]; split <;> omega)

theorem fn_exchange9 : Fn2 57 (mOp 8) := by
  refine ⟨fun args w => by kernel_rfl, ?_⟩
  intro a b w
  have HE : Hid (mOp 8 a b = if U b < U a then a else b) := Lib.hid rfl
  go_enter Try.func57, Try.ntmps57
  go_wp2
  all_goals go_ret
  all_goals (refine ⟨ret_u ?_, 0, rfl⟩; rw [HE.out]; split <;> omega)

theorem fn_reading1 : Fn1 58 (lOp 0) := by
  refine ⟨fun args w => by kernel_rfl, ?_⟩
  intro a w
  have HS := Lib.hid (sign_any a 8 w (by omega) (by omega))
  have HE : Hid (lOp 0 a = signB a 8) := Lib.hid (lOp_0 a)
  go_enter Try.func58, Try.ntmps58
  go_wp2_with (go_at_call 59; (with_reducible refine HS.out.mono ?_); rintro e w5 ⟨rfl, hq⟩; replace hq := hq.symm; subst hq)
  go_ret
  exact ⟨ret_u (by rw [HE.out]), rfl⟩

theorem fn_reading2 : Fn1 60 (lOp 1) := by
  refine ⟨fun args w => by kernel_rfl, ?_⟩
  intro a w
  have HS := Lib.hid (sign_any a 16 w (by omega) (by omega))
  have HE : Hid (lOp 1 a = signB a 16) := Lib.hid (lOp_1 a)
  go_enter Try.func60, Try.ntmps60
  go_wp2_with (go_at_call 59; (with_reducible refine HS.out.mono ?_); rintro e w5 ⟨rfl, hq⟩; replace hq := hq.symm; subst hq)
  go_ret
  exact ⟨ret_u (by rw [HE.out]), rfl⟩

theorem fn_reading3 : Fn1 61 (lOp 2) := by
  refine ⟨fun args w => by kernel_rfl, ?_⟩
  intro a w
  go_enter Try.func61, Try.ntmps61
  go_wp2
  go_ret
  exact ⟨rfl, rfl⟩

theorem fn_reading4 : Fn1 62 (lOp 3) := by
  refine ⟨fun args w => by kernel_rfl, ?_⟩
  intro a w
  have HS := Lib.hid (field_any a 0 8 w (by omega) (by omega))
  have HE : Hid (lOp 3 a = fieldB a 0 8) := Lib.hid (lOp_3 a)
  go_enter Try.func62, Try.ntmps62
  go_wp2_with (go_at_call 63; (with_reducible refine HS.out.mono ?_); rintro e w5 ⟨rfl, hq⟩; replace hq := hq.symm; subst hq)
  go_ret
  exact ⟨ret_u (by rw [HE.out]), rfl⟩

theorem fn_reading5 : Fn1 64 (lOp 4) := by
  refine ⟨fun args w => by kernel_rfl, ?_⟩
  intro a w
  have HS := Lib.hid (field_any a 0 16 w (by omega) (by omega))
  have HE : Hid (lOp 4 a = fieldB a 0 16) := Lib.hid (lOp_4 a)
  go_enter Try.func64, Try.ntmps64
  go_wp2_with (go_at_call 63; (with_reducible refine HS.out.mono ?_); rintro e w5 ⟨rfl, hq⟩; replace hq := hq.symm; subst hq)
  go_ret
  exact ⟨ret_u (by rw [HE.out]), rfl⟩

end Go.Proofs.Ytffmbpenhgbhnaa
