/- The program of layer alu: which operation stands behind a name; what it answers. -/
import Derived.Test.YtffmbpenhgbhnaaAluP
namespace Go.Proofs.Ytffmbpenhgbhnaa
open Go.RowKit Bm

/-- Names are numbers of 64 bits. -/
def N64 (n : Int) : Prop := -9223372036854775808 ≤ n ∧ n ≤ 9223372036854775807

def opF (k : Nat) : FuncId := match k with
  | 0 => 67
  | 1 => 68
  | 2 => 69
  | 3 => 72
  | 4 => 74
  | 5 => 75
  | 6 => 70
  | 7 => 71
  | 8 => 76
  | 9 => 77
  | 10 => 78
  | 11 => 79
  | 12 => 82
  | 13 => 83
  | 14 => 84
  | 15 => 86
  | 16 => 88
  | _ => 89

def amF (k : Nat) : FuncId := match k with
  | 0 => 49
  | 1 => 50
  | 2 => 51
  | 3 => 52
  | 4 => 53
  | 5 => 54
  | 6 => 55
  | 7 => 56
  | _ => 57

def brF (k : Nat) : FuncId := match k with
  | 0 => 43
  | 1 => 44
  | 2 => 45
  | 3 => 46
  | 4 => 47
  | _ => 48

def ldF (k : Nat) : FuncId := match k with
  | 0 => 58
  | 1 => 60
  | 2 => 61
  | 3 => 62
  | _ => 64

theorem opF_is (k : Nat) (h : k ≤ 17) : Fn2 (opF k) (aOp k) := by
  have c : k = 0 ∨ k = 1 ∨ k = 2 ∨ k = 3 ∨ k = 4 ∨ k = 5 ∨ k = 6 ∨ k = 7 ∨ k = 8 ∨ k = 9 ∨ k = 10 ∨ k = 11 ∨ k = 12 ∨ k = 13 ∨ k = 14 ∨ k = 15 ∨ k = 16 ∨ k = 17 := by omega
  rcases c with rfl | rfl | rfl | rfl | rfl | rfl | rfl | rfl | rfl | rfl | rfl | rfl | rfl | rfl | rfl | rfl | rfl | rfl
  · exact fn_simple1
  · exact fn_simple2
  · exact fn_simple3
  · exact fn_simple6
  · exact fn_simple7
  · exact fn_simple8
  · exact fn_simple4
  · exact fn_simple5
  · exact fn_simple9
  · exact fn_simple10
  · exact fn_product1
  · exact fn_product2
  · exact fn_product3
  · exact fn_product4
  · exact fn_product5
  · exact fn_product6
  · exact fn_product7
  · exact fn_product8

theorem amF_is (k : Nat) (h : k ≤ 8) : Fn2 (amF k) (mOp k) := by
  have c : k = 0 ∨ k = 1 ∨ k = 2 ∨ k = 3 ∨ k = 4 ∨ k = 5 ∨ k = 6 ∨ k = 7 ∨ k = 8 := by omega
  rcases c with rfl | rfl | rfl | rfl | rfl | rfl | rfl | rfl | rfl
  · exact fn_exchange1
  · exact fn_exchange2
  · exact fn_exchange3
  · exact fn_exchange4
  · exact fn_exchange5
  · exact fn_exchange6
  · exact fn_exchange7
  · exact fn_exchange8
  · exact fn_exchange9

theorem brF_is (k : Nat) (h : k ≤ 5) : Fn2B (brF k) (bOp k) := by
  have c : k = 0 ∨ k = 1 ∨ k = 2 ∨ k = 3 ∨ k = 4 ∨ k = 5 := by omega
  rcases c with rfl | rfl | rfl | rfl | rfl | rfl
  · exact fn_condition1
  · exact fn_condition2
  · exact fn_condition3
  · exact fn_condition4
  · exact fn_condition5
  · exact fn_condition6

theorem ldF_is (k : Nat) (h : k ≤ 4) : Fn1 (ldF k) (lOp k) := by
  have c : k = 0 ∨ k = 1 ∨ k = 2 ∨ k = 3 ∨ k = 4 := by omega
  rcases c with rfl | rfl | rfl | rfl | rfl
  · exact fn_reading1
  · exact fn_reading2
  · exact fn_reading3
  · exact fn_reading4
  · exact fn_reading5

set_option maxHeartbeats 4000000 in
theorem simple_yes (n : Int) (w : World) (h0 : 19 ≤ n) (h1 : n ≤ 37) : Calls Try.prog 38 #[.int .i64 n] w fun e w' => e = .returned (.func (.func (opF (sameN n - 28).toNat)) #[] #[]) ∧ w' = w := by
  have c : n = 19 ∨ n = 20 ∨ n = 21 ∨ n = 22 ∨ n = 23 ∨ n = 24 ∨ n = 25 ∨ n = 26 ∨ n = 27 ∨ n = 28 ∨ n = 29 ∨ n = 30 ∨ n = 31 ∨ n = 32 ∨ n = 33 ∨ n = 34 ∨ n = 35 ∨ n = 36 ∨ n = 37 := by omega
  rcases c with rfl | rfl | rfl | rfl | rfl | rfl | rfl | rfl | rfl | rfl | rfl | rfl | rfl | rfl | rfl | rfl | rfl | rfl | rfl
  all_goals
    go_enter Try.func38, Try.ntmps38
    go_wp2
    go_ret
    exact ⟨rfl, rfl⟩
theorem simple_no (n : Int) (w : World) (h : n < 19 ∨ 37 < n) : Calls Try.prog 38 #[.int .i64 n] w fun e w' => e = .returned .nilFunc ∧ w' = w := by
  have d19 : ¬ n = 19 := by omega
  have d20 : ¬ n = 20 := by omega
  have d21 : ¬ n = 21 := by omega
  have d22 : ¬ n = 22 := by omega
  have d23 : ¬ n = 23 := by omega
  have d24 : ¬ n = 24 := by omega
  have d25 : ¬ n = 25 := by omega
  have d26 : ¬ n = 26 := by omega
  have d27 : ¬ n = 27 := by omega
  have d28 : ¬ n = 28 := by omega
  have d29 : ¬ n = 29 := by omega
  have d30 : ¬ n = 30 := by omega
  have d31 : ¬ n = 31 := by omega
  have d32 : ¬ n = 32 := by omega
  have d33 : ¬ n = 33 := by omega
  have d34 : ¬ n = 34 := by omega
  have d35 : ¬ n = 35 := by omega
  have d36 : ¬ n = 36 := by omega
  have d37 : ¬ n = 37 := by omega
  clear h
  go_enter Try.func38, Try.ntmps38
  go_wp2
  go_ret
  exact ⟨rfl, rfl⟩

set_option maxHeartbeats 4000000 in
theorem product_yes (n : Int) (w : World) (h0 : 38 ≤ n) (h1 : n ≤ 45) : Calls Try.prog 39 #[.int .i64 n] w fun e w' => e = .returned (.func (.func (opF (sameN n - 28).toNat)) #[] #[]) ∧ w' = w := by
  have c : n = 38 ∨ n = 39 ∨ n = 40 ∨ n = 41 ∨ n = 42 ∨ n = 43 ∨ n = 44 ∨ n = 45 := by omega
  rcases c with rfl | rfl | rfl | rfl | rfl | rfl | rfl | rfl
  all_goals
    go_enter Try.func39, Try.ntmps39
    go_wp2
    go_ret
    exact ⟨rfl, rfl⟩
theorem product_no (n : Int) (w : World) (h : n < 38 ∨ 45 < n) : Calls Try.prog 39 #[.int .i64 n] w fun e w' => e = .returned .nilFunc ∧ w' = w := by
  have d38 : ¬ n = 38 := by omega
  have d39 : ¬ n = 39 := by omega
  have d40 : ¬ n = 40 := by omega
  have d41 : ¬ n = 41 := by omega
  have d42 : ¬ n = 42 := by omega
  have d43 : ¬ n = 43 := by omega
  have d44 : ¬ n = 44 := by omega
  have d45 : ¬ n = 45 := by omega
  clear h
  go_enter Try.func39, Try.ntmps39
  go_wp2
  go_ret
  exact ⟨rfl, rfl⟩

set_option maxHeartbeats 4000000 in
theorem exchange_yes (n : Int) (w : World) (h0 : 48 ≤ n) (h1 : n ≤ 56) : Calls Try.prog 34 #[.int .i64 n] w fun e w' => e = .returned (.func (.func (amF (n - 48).toNat)) #[] #[]) ∧ w' = w := by
  have c : n = 48 ∨ n = 49 ∨ n = 50 ∨ n = 51 ∨ n = 52 ∨ n = 53 ∨ n = 54 ∨ n = 55 ∨ n = 56 := by omega
  rcases c with rfl | rfl | rfl | rfl | rfl | rfl | rfl | rfl | rfl
  all_goals
    go_enter Try.func34, Try.ntmps34
    go_wp2
    go_ret
    exact ⟨rfl, rfl⟩
theorem exchange_no (n : Int) (w : World) (h : n < 48 ∨ 56 < n) : Calls Try.prog 34 #[.int .i64 n] w fun e w' => e = .returned .nilFunc ∧ w' = w := by
  have d48 : ¬ n = 48 := by omega
  have d49 : ¬ n = 49 := by omega
  have d50 : ¬ n = 50 := by omega
  have d51 : ¬ n = 51 := by omega
  have d52 : ¬ n = 52 := by omega
  have d53 : ¬ n = 53 := by omega
  have d54 : ¬ n = 54 := by omega
  have d55 : ¬ n = 55 := by omega
  have d56 : ¬ n = 56 := by omega
  clear h
  go_enter Try.func34, Try.ntmps34
  go_wp2
  go_ret
  exact ⟨rfl, rfl⟩

set_option maxHeartbeats 4000000 in
theorem condition_yes (n : Int) (w : World) (h0 : 5 ≤ n) (h1 : n ≤ 10) : Calls Try.prog 33 #[.int .i64 n] w fun e w' => e = .returned (.func (.func (brF (n - 5).toNat)) #[] #[]) ∧ w' = w := by
  have c : n = 5 ∨ n = 6 ∨ n = 7 ∨ n = 8 ∨ n = 9 ∨ n = 10 := by omega
  rcases c with rfl | rfl | rfl | rfl | rfl | rfl
  all_goals
    go_enter Try.func33, Try.ntmps33
    go_wp2
    go_ret
    exact ⟨rfl, rfl⟩
theorem condition_no (n : Int) (w : World) (h : n < 5 ∨ 10 < n) : Calls Try.prog 33 #[.int .i64 n] w fun e w' => e = .returned .nilFunc ∧ w' = w := by
  have d5 : ¬ n = 5 := by omega
  have d6 : ¬ n = 6 := by omega
  have d7 : ¬ n = 7 := by omega
  have d8 : ¬ n = 8 := by omega
  have d9 : ¬ n = 9 := by omega
  have d10 : ¬ n = 10 := by omega
  clear h
  go_enter Try.func33, Try.ntmps33
  go_wp2
  go_ret
  exact ⟨rfl, rfl⟩

set_option maxHeartbeats 4000000 in
theorem reading_yes (n : Int) (w : World) (h0 : 11 ≤ n) (h1 : n ≤ 15) : Calls Try.prog 36 #[.int .i64 n] w fun e w' => e = .returned (.func (.func (ldF (n - 11).toNat)) #[] #[]) ∧ w' = w := by
  have c : n = 11 ∨ n = 12 ∨ n = 13 ∨ n = 14 ∨ n = 15 := by omega
  rcases c with rfl | rfl | rfl | rfl | rfl
  all_goals
    go_enter Try.func36, Try.ntmps36
    go_wp2
    go_ret
    exact ⟨rfl, rfl⟩
theorem reading_no (n : Int) (w : World) (h : n < 11 ∨ 15 < n) : Calls Try.prog 36 #[.int .i64 n] w fun e w' => e = .returned .nilFunc ∧ w' = w := by
  have d11 : ¬ n = 11 := by omega
  have d12 : ¬ n = 12 := by omega
  have d13 : ¬ n = 13 := by omega
  have d14 : ¬ n = 14 := by omega
  have d15 : ¬ n = 15 := by omega
  clear h
  go_enter Try.func36, Try.ntmps36
  go_wp2
  go_ret
  exact ⟨rfl, rfl⟩

theorem fn_neq (f : FuncId) (w : World) : (binOp .neq 44 (.func (.func f) #[] #[]) .nilFunc).run Try.prog w = .ok (.bool true) w := by kernel_rfl
theorem nil_neq (w : World) : (binOp .neq 44 .nilFunc .nilFunc).run Try.prog w = .ok (.bool false) w := by kernel_rfl
theorem fn_eql (f : FuncId) (w : World) : (binOp .eql 44 (.func (.func f) #[] #[]) .nilFunc).run Try.prog w = .ok (.bool false) w := by kernel_rfl
theorem nil_eql (w : World) : (binOp .eql 44 .nilFunc .nilFunc).run Try.prog w = .ok (.bool true) w := by kernel_rfl
theorem fnB_eql (f : FuncId) (w : World) : (binOp .eql 32 (.func (.func f) #[] #[]) .nilFunc).run Try.prog w = .ok (.bool false) w := by kernel_rfl
theorem nilB_eql (w : World) : (binOp .eql 32 .nilFunc .nilFunc).run Try.prog w = .ok (.bool true) w := by kernel_rfl
theorem fn1_eql (f : FuncId) (w : World) : (binOp .eql 41 (.func (.func f) #[] #[]) .nilFunc).run Try.prog w = .ok (.bool false) w := by kernel_rfl
theorem nil1_eql (w : World) : (binOp .eql 41 .nilFunc .nilFunc).run Try.prog w = .ok (.bool true) w := by kernel_rfl

theorem operation_yes (n : Int) (w : World) (h0 : 19 ≤ n) (h1 : n ≤ 45) : Calls Try.prog 27 #[.int .i64 n] w fun e w' => e = .returned (.func (.func (opF (sameN n - 28).toNat)) #[] #[]) ∧ w' = w := by
  obtain ⟨f, hf⟩ : ∃ f, f = opF (sameN n - 28).toNat := ⟨_, rfl⟩
  rw [← hf]
  by_cases h : n ≤ 37
  · have HS := Lib.hid (simple_yes n w h0 h)
    rw [← hf] at HS
    have q1 := fn_neq f
    have q2 := nil_neq
    clear hf h0 h1 h
    go_enter Try.func27, Try.ntmps27
    go_wp2_with (go_at_call 38; (with_reducible refine HS.out.mono ?_); rintro e w5 ⟨rfl, hq⟩; replace hq := hq.symm; subst hq)
    go_ret
    exact ⟨rfl, rfl⟩
  · have HS := Lib.hid (simple_no n w (by omega))
    have HP := Lib.hid (product_yes n w (by omega) h1)
    rw [← hf] at HP
    have q1 := fn_neq f
    have q2 := nil_neq
    clear hf h0 h1 h
    go_enter Try.func27, Try.ntmps27
    go_wp2_with (first | (go_at_call 38; (with_reducible refine HS.out.mono ?_); rintro e w5 ⟨rfl, hq⟩; replace hq := hq.symm; subst hq) | (go_at_call 39; (with_reducible refine HP.out.mono ?_); rintro e w5 ⟨rfl, hq⟩; replace hq := hq.symm; subst hq))
    go_ret
    exact ⟨rfl, rfl⟩
theorem operation_no (n : Int) (w : World) (h : n < 19 ∨ 45 < n) : Calls Try.prog 27 #[.int .i64 n] w fun e w' => e = .returned .nilFunc ∧ w' = w := by
  have HS := Lib.hid (simple_no n w (by omega))
  have HP := Lib.hid (product_no n w (by omega))
  have q2 := nil_neq
  clear h
  go_enter Try.func27, Try.ntmps27
  go_wp2_with (first | (go_at_call 38; (with_reducible refine HS.out.mono ?_); rintro e w5 ⟨rfl, hq⟩; replace hq := hq.symm; subst hq) | (go_at_call 39; (with_reducible refine HP.out.mono ?_); rintro e w5 ⟨rfl, hq⟩; replace hq := hq.symm; subst hq))
  go_ret
  exact ⟨rfl, rfl⟩
theorem apply_yes {f : FuncId} {g : BitVec 32 → BitVec 32 → BitVec 32} (h : Fn2 f g) (a b : BitVec 32) (w : World) : Calls Try.prog 26 #[.func (.func f) #[] #[], .int .u32 (U a), .int .u32 (U b)] w fun e w' => e = .returned (.tuple #[.int .u32 (U (g a b)), .bool true]) ∧ ∃ n, w' = w.drewN n := by
  have ef := h.ent
  have q1 := fn_eql f
  have HR := Lib.hid (h.run a b w)
  go_enter Try.func26, Try.ntmps26
  go_wp2_with ((with_reducible refine HR.out.mono ?_); rintro e w5 ⟨rfl, k, hq⟩; replace hq := hq.symm; subst hq)
  go_ret2
  exact ⟨rfl, k, rfl⟩
theorem apply_no (a b : BitVec 32) (w : World) : Calls Try.prog 26 #[.nilFunc, .int .u32 (U a), .int .u32 (U b)] w fun e w' => e = .returned (.tuple #[.int .u32 0, .bool false]) ∧ ∃ n, w' = w.drewN n := by
  have q2 := nil_eql
  go_enter Try.func26, Try.ntmps26
  go_wp2
  go_ret2
  exact ⟨rfl, 0, rfl⟩

end Go.Proofs.Ytffmbpenhgbhnaa
