/- Contracts of the bit-field functions of package bits: whatever word and numbers they are given, each returns the word that XBitsMath names, and leaves memory alone. -/
import Derived.Test.YtfckgfimmoinmaaRows
import Derived.Test.YtfckgfimmoinmaaBitsMath
import Derived.Deep.QuietTactic
import Derived.BigQuiet
import Derived.Lib.Hide
namespace Go.Proofs.Ytfckgfimmoinmaa
open Go.RowKit Bm

theorem ret_u {a b : Int} (h : a = b) : Ending.returned (.int .u32 a) = Ending.returned (.int .u32 b) := by rw [h]

theorem shr_min (x : BitVec 32) (n : Nat) : x >>> (min n 32) = x >>> n := by
  by_cases h : n ≤ 32
  · rw [Nat.min_eq_left h]
  · rw [Nat.min_eq_right (by omega)]
    apply BitVec.eq_of_getLsbD_eq
    intro i hi
    rw [BitVec.getLsbD_ushiftRight, BitVec.getLsbD_ushiftRight, BitVec.getLsbD_of_ge _ _ (by omega), BitVec.getLsbD_of_ge _ _ (by omega)]
theorem shl_min (x : BitVec 32) (n : Nat) : x <<< (min n 32) = x <<< n := by
  by_cases h : n ≤ 32
  · rw [Nat.min_eq_left h]
  · rw [Nat.min_eq_right (by omega)]
    apply BitVec.eq_of_getLsbD_eq
    intro i hi
    rw [BitVec.getLsbD_shiftLeft, BitVec.getLsbD_shiftLeft]
    have a : i < 32 := hi
    have b : i < n := by omega
    simp [a, b]



theorem partial_any (f t p : BitVec 32) (w : World) :
    Calls Try.prog 99 #[.int .u32 (U f), .int .u32 (U t), .int .u32 (U p)] w fun e w' => e = .returned (.int .u32 (U (partB f t p))) ∧ w' = w := by
  go_enter Try.func99, Try.ntmps99
  go_wp2
  go_ret
  exact ⟨rfl, rfl⟩

theorem w64_lo (n : Int) : -9223372036854775808 ≤ wrap64 n := by unfold wrap64; omega
theorem w64_hi (n : Int) : wrap64 n ≤ 9223372036854775807 := by unfold wrap64; omega
theorem field_wrap (x : BitVec 32) (a n : Int) (h3 : -9223372036854775808 ≤ a) (h4 : a ≤ 9223372036854775807) : shiftB x (wrap64 (-a)) &&& lowB n = fieldB x a n := by
  by_cases h : a = -9223372036854775808
  · subst h
    apply gb_ext
    intro i _ _
    rw [gb_field, gb_and, gb_shift, gb_out (x := x), gb_out (x := x)]
    · simp
    · omega
    · unfold wrap64; omega
  · unfold fieldB
    rw [show wrap64 (-a) = -a by unfold wrap64; omega]



theorem i64_and31 (n : Int) : bits .and .i64 n 31 = n % 32 := by
  have h31 : (BitVec.ofInt 64 31).toNat = 2 ^ 5 - 1 := by decide
  have key : (BitVec.ofInt 64 n &&& BitVec.ofInt 64 31).toNat = (n % ((2 ^ 64 : Nat) : Int)).toNat % 2 ^ 5 := by
    rw [BitVec.toNat_and, BitVec.toNat_ofInt, h31, Nat.and_two_pow_sub_one_eq_mod]
  show IntKind.i64.wrap ((BitVec.ofInt 64 n &&& BitVec.ofInt 64 31).toNat : Nat) = n % 32
  rw [key, IntKind.wrap_i64]
  omega

theorem turn_any (x : BitVec 32) (k : Int) (w : World) :
    Calls Try.prog 100 #[.int .u32 (U x), .int .i64 k] w fun e w' => e = .returned (.int .u32 (U (turnB x k))) ∧ ∃ n, w' = w.drewN n := by
  obtain ⟨m, hm⟩ : ∃ m, m = bits .and .i64 k 31 := ⟨_, rfl⟩
  have hm2 : m = k % 32 := by rw [hm, i64_and31]
  have m0 : 0 ≤ m := by omega
  have m1 : m < 32 := by omega
  have m2 : 0 ≤ 32 - m := by omega
  have m3 : wrap64 (32 - m) = 32 - m := by unfold wrap64; omega
  have hm' : bits .and .i64 k 31 = m := hm.symm
  have H2 := Lib.hid hm2
  clear hm hm2
  go_enter Try.func100, Try.ntmps100
  go_wp2
  go_quiet (fail)
  go_wp2
  go_ret
  refine ⟨ret_u ?_, _, rfl⟩
  have e : m = k % 32 := H2.out
  unfold turnB
  rw [← U_or, ← U_shl, ← U_shr, e]

theorem sign_test (x : BitVec 32) (n : Int) : (U (fieldB x (n - 1) 1) == 0) = !gb x (n - 1) := by
  rw [show (0 : Int) = U 0#32 from rfl, U_beq]
  cases hb : gb x (n - 1)
  · have : fieldB x (n - 1) 1 = 0#32 := by
      apply gb_ext; intro i _ _
      rw [gb_field, gb_zero]
      by_cases h : i < 1
      · rw [show n - 1 + i = n - 1 by omega, hb]; simp
      · simp [h]
    rw [this]; rfl
  · have : fieldB x (n - 1) 1 ≠ 0#32 := by
      intro h
      have g := gb_field x (n - 1) 1 0
      rw [h, gb_zero, show n - 1 + 0 = n - 1 by omega, hb] at g
      simp at g
    have h0 : ¬ fieldB x (n - 1) 1 = 0#32 := this
    simp [h0]


end Go.Proofs.Ytfckgfimmoinmaa
