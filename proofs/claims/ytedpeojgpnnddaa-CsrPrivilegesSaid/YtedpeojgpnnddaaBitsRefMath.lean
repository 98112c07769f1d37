/- Plain mathematics of the document's own answers for layer bits: a word that is built bit by bit. -/
import Derived.Test.YtedpeojgpnnddaaBitsLawMath
namespace Go.Proofs.Ytedpeojgpnnddaa.Bm
open Go Go.RowKit

/-- 2 to the power of n. -/
def pw (n : Int) : Int := 2 ^ n.toNat
theorem pw_zero : pw 0 = 1 := rfl
theorem pw_succ (k : Nat) : pw ((k : Int) + 1) = pw k * 2 := by
  unfold pw
  rw [show ((k : Int) + 1).toNat = k + 1 by omega, Int.toNat_natCast, Int.pow_succ]
theorem pw_pos (n : Int) : 0 < pw n := Int.pow_pos (by decide)
theorem pw_le (n : Int) (h : n ≤ 31) : pw n ≤ 2147483648 := by
  unfold pw
  have := Nat.pow_le_pow_right (n := 2) (by decide) (show n.toNat ≤ 31 by omega)
  have e : ((2 : Int) ^ n.toNat) = ((2 ^ n.toNat : Nat) : Int) := by rw [Int.natCast_pow]; rfl
  rw [e]; omega
theorem pw_U (n : Int) (h : n ≤ 31) : pw n = U (1#32 <<< n.toNat) := by
  have p := pw_le n h
  have q := pw_pos n
  rw [← U_shl, show U 1#32 = 1 from rfl, Int.one_mul]
  unfold pw at *; omega
theorem bit_quo (x : BitVec 32) (n : Int) (h0 : 0 ≤ n) : U x / pw n % 2 = bitI x n := by
  obtain ⟨k, rfl⟩ : ∃ k : Nat, n = k := ⟨n.toNat, by omega⟩
  rw [← bit_and1]
  unfold pw
  rw [Int.toNat_natCast, U_shr, show (1 : Int) = U 1#32 from rfl, U_and]
  unfold U
  rw [BitVec.toNat_and, show (1#32).toNat = 2 ^ 1 - 1 from rfl, Nat.and_two_pow_sub_one_eq_mod]
  simp

def setB (x : BitVec 32) (n : Int) (c : Bool) : BitVec 32 :=
  if n < 0 ∨ 31 < n then x else if c then x ||| (1#32 <<< n.toNat) else x &&& ~~~(1#32 <<< n.toNat)
theorem gb_one (n i : Int) (h0 : 0 ≤ n) (h1 : n ≤ 31) (i0 : 0 ≤ i) (i1 : i < 32) : gb (1#32 <<< n.toNat) i = decide (i = n) := by
  have e : 1#32 <<< n.toNat = shiftB 1#32 n := by unfold shiftB; rw [if_neg (by omega)]
  rw [e, gb_shift]
  have d : decide (0 ≤ i ∧ i < 32) = true := by simp [i0, i1]
  rw [d, Bool.true_and]
  by_cases h : i = n
  · subst h; simp; rfl
  · simp only [h, decide_false]
    by_cases g : 0 ≤ i - n
    · obtain ⟨m, hm⟩ : ∃ m : Nat, i - n = (m + 1 : Nat) := ⟨(i - n - 1).toNat, by omega⟩
      rw [hm, gb_nat]; simp
    · exact gb_out (by omega)
theorem gb_set (x : BitVec 32) (n : Int) (c : Bool) (i : Int) (i0 : 0 ≤ i) (i1 : i < 32) : gb (setB x n c) i = if i = n then c else gb x i := by
  unfold setB
  by_cases h : n < 0 ∨ 31 < n
  · rw [if_pos h, if_neg (by omega)]
  · rw [if_neg h]
    cases c
    · simp only [Bool.false_eq_true, if_false]
      rw [gb_and, gb_not, gb_one n i (by omega) (by omega) i0 i1]
      by_cases g : i = n
      · simp [g]
      · simp [g, i0, i1]
    · simp only [if_true]
      rw [gb_or, gb_one n i (by omega) (by omega) i0 i1]
      by_cases g : i = n
      · simp [g]
      · simp [g]
theorem set_same (x : BitVec 32) (n : Int) : setB x n (gb x n) = x := by
  apply gb_ext; intro i i0 i1
  rw [gb_set x n _ i i0 i1]
  split
  · rename_i h; rw [h]
  · rfl
theorem set_up (x : BitVec 32) (n : Int) (h0 : 0 ≤ n) (h1 : n ≤ 31) (h : gb x n = false) : (U x + pw n) % 4294967296 = U (setB x n true) := by
  rw [pw_U n h1, U_add]
  have z : x &&& (1#32 <<< n.toNat) = 0#32 := by
    apply gb_ext; intro i i0 i1
    rw [gb_and, gb_one n i h0 h1 i0 i1, gb_zero]
    by_cases g : i = n
    · rw [g, h]; rfl
    · simp [g]
  rw [BitVec.add_eq_or_of_and_eq_zero _ _ z]
  unfold setB; rw [if_neg (by omega), if_pos rfl]
theorem set_down (x : BitVec 32) (n : Int) (h0 : 0 ≤ n) (h1 : n ≤ 31) (h : gb x n = true) : (U x - pw n) % 4294967296 = U (setB x n false) := by
  have a := set_up (setB x n false) n h0 h1 (by rw [gb_set _ _ _ _ h0 (by omega), if_pos rfl])
  have b : setB (setB x n false) n true = x := by
    apply gb_ext; intro i i0 i1
    rw [gb_set _ _ _ _ i0 i1, gb_set _ _ _ _ i0 i1]
    split
    · rename_i g; rw [g, h]
    · rfl
  rw [b] at a
  have c := U_nonneg (setB x n false)
  have d := U_lt (setB x n false)
  omega
/-- What the document's set reckons. -/
theorem set_sum (x y : BitVec 32) (n j : Int) (h0 : 0 ≤ n) (h1 : n ≤ 31) :
    (U x - bitI x n * pw n + bitI y j * pw n) % 4294967296 = U (setB x n (gb y j)) := by
  have c := U_nonneg x
  have d := U_lt x
  unfold bitI
  cases hx : gb x n <;> cases hy : gb y j
  · have := set_same x n; rw [hx] at this; rw [this]; simp; omega
  · simp; exact set_up x n h0 h1 hx
  · simp; exact set_down x n h0 h1 hx
  · have := set_same x n; rw [hx] at this; rw [this]; simp; omega

theorem field_zero (x : BitVec 32) (a : Int) : fieldB x a 0 = 0#32 := by
  apply gb_ext; intro i i0 i1
  rw [gb_field, gb_zero]
  have : ¬ (0 ≤ i ∧ i < 32 ∧ i < 0) := by omega
  simp only [this, decide_false, Bool.false_and]
theorem field_step (x : BitVec 32) (a : Int) (k : Nat) (hk : k < 32) : setB (fieldB x a k) k (gb x (a + k)) = fieldB x a ((k : Int) + 1) := by
  apply gb_ext; intro i i0 i1
  rw [gb_set _ _ _ _ i0 i1, gb_field, gb_field]
  by_cases h : i = k
  · have : (0 ≤ i ∧ i < 32 ∧ i < (k : Int) + 1) := by omega
    simp only [if_pos h, this, and_self, decide_true, Bool.true_and]; rw [h]
  · have : (0 ≤ i ∧ i < 32 ∧ i < (k : Int) + 1) ↔ (0 ≤ i ∧ i < 32 ∧ i < (k : Int)) := by omega
    rw [if_neg h, decide_eq_decide.mpr this]
theorem field_far (x : BitVec 32) (a n : Int) (h : 32 ≤ a) : fieldB x a n = 0#32 := by
  apply gb_ext; intro i i0 i1
  rw [gb_field, gb_zero, gb_out (by omega)]; simp
theorem field_end (x : BitVec 32) (a n : Int) (k : Nat) (h : k = 32 ∨ n ≤ k) (h2 : (k : Int) ≤ n ∨ k = 0) : fieldB x a k = fieldB x a n := by
  apply gb_ext; intro i i0 i1
  rw [gb_field, gb_field]
  have : (0 ≤ i ∧ i < 32 ∧ i < (k : Int)) ↔ (0 ≤ i ∧ i < 32 ∧ i < n) := by omega
  rw [decide_eq_decide.mpr this]

theorem put_none (x : BitVec 32) (a : Int) (v : BitVec 32) : putB x a 0 v = x := by
  apply gb_ext; intro i i0 i1
  rw [gb_put, if_neg (by omega)]
theorem put_step (x : BitVec 32) (a : Int) (v : BitVec 32) (k : Nat) (hk : k < 32) : setB (putB x a k v) (a + k) (gb v k) = putB x a ((k : Int) + 1) v := by
  apply gb_ext; intro i i0 i1
  rw [gb_set _ _ _ _ i0 i1, gb_put, gb_put]
  by_cases h : i = a + k
  · rw [if_pos h, if_pos (by omega), show i - a = k by omega]
  · rw [if_neg h]
    by_cases g : 0 ≤ i ∧ i < 32 ∧ 0 ≤ i - a ∧ i - a < 32 ∧ i - a < (k : Int)
    · rw [if_pos g, if_pos (by omega)]
    · rw [if_neg g, if_neg (by omega)]
theorem put_far (x : BitVec 32) (a n : Int) (v : BitVec 32) (h : 32 ≤ a) : putB x a n v = x := by
  apply gb_ext; intro i i0 i1
  rw [gb_put, if_neg (by omega)]
theorem put_end (x : BitVec 32) (a n : Int) (v : BitVec 32) (k : Nat) (h : k = 32 ∨ n ≤ k) (h2 : (k : Int) ≤ n ∨ k = 0) : putB x a k v = putB x a n v := by
  apply gb_ext; intro i i0 i1
  rw [gb_put, gb_put]
  by_cases g : 0 ≤ i ∧ i < 32 ∧ 0 ≤ i - a ∧ i - a < 32 ∧ i - a < (k : Int)
  · rw [if_pos g, if_pos (by omega)]
  · rw [if_neg g, if_neg (by omega)]

/-- A word whose bits below k have their sign already. -/
def signP (v : BitVec 32) (n k : Int) : BitVec 32 := partB v (signB v n) (lowB k)
theorem gb_signP (v : BitVec 32) (n k i : Int) (n0 : 1 ≤ n) (n1 : n < 32) (i0 : 0 ≤ i) (i1 : i < 32) : gb (signP v n k) i = if i < k then (if i < n then gb v i else gb v (n - 1)) else gb v i := by
  unfold signP
  rw [gb_part, gb_low, gb_sign v n i n0 n1 i0 i1]
  by_cases h : i < k
  · simp [h, i0, i1]
  · simp [h]
theorem signP_start (v : BitVec 32) (n : Int) (n0 : 1 ≤ n) (n1 : n < 32) : signP v n n = v := by
  apply gb_ext; intro i i0 i1
  rw [gb_signP v n n i n0 n1 i0 i1]
  by_cases h : i < n
  · rw [if_pos h, if_pos h]
  · rw [if_neg h]
theorem signP_step (v : BitVec 32) (n k : Int) (n0 : 1 ≤ n) (n1 : n < 32) (h0 : n ≤ k) : setB (signP v n k) k (gb (signP v n k) (n - 1)) = signP v n (k + 1) := by
  apply gb_ext; intro i i0 i1
  rw [gb_set _ _ _ _ i0 i1, gb_signP v n k i n0 n1 i0 i1, gb_signP v n k (n - 1) n0 n1 (by omega) (by omega), gb_signP v n (k + 1) i n0 n1 i0 i1]
  by_cases h : i = k
  · rw [if_pos h, if_pos (by omega), if_pos (by omega), if_pos (by omega), if_neg (by omega)]
  · rw [if_neg h]
    by_cases g : i < k
    · have g2 : i < k + 1 := by omega
      simp only [g, g2, if_true]
    · have g2 : ¬ i < k + 1 := by omega
      simp only [g, g2, if_false]
theorem signP_end (v : BitVec 32) (n : Int) (n0 : 1 ≤ n) (n1 : n < 32) : signP v n 32 = signB v n := by
  apply gb_ext; intro i i0 i1
  rw [gb_signP v n 32 i n0 n1 i0 i1, gb_sign v n i n0 n1 i0 i1, if_pos i1]

/-- A word whose bits below k are on their way already. -/
def wayP (f t p : BitVec 32) (k : Int) : BitVec 32 := partB f t (p &&& lowB k)
theorem gb_wayP (f t p : BitVec 32) (k i : Int) (i0 : 0 ≤ i) (i1 : i < 32) : gb (wayP f t p k) i = if i < k ∧ gb p i = true then gb t i else gb f i := by
  unfold wayP
  rw [gb_part, gb_and, gb_low]
  by_cases h : i < k
  · simp [h, i0, i1]
  · simp [h]
theorem wayP_start (f t p : BitVec 32) : wayP f t p 0 = f := by
  apply gb_ext; intro i i0 i1
  rw [gb_wayP f t p 0 i i0 i1, if_neg (by omega)]
theorem wayP_step (f t p : BitVec 32) (k : Nat) (h : gb p k = true) : setB (wayP f t p k) k (gb t k) = wayP f t p ((k : Int) + 1) := by
  apply gb_ext; intro i i0 i1
  rw [gb_set _ _ _ _ i0 i1, gb_wayP f t p k i i0 i1, gb_wayP f t p _ i i0 i1]
  by_cases g : i = k
  · subst g; rw [if_pos rfl, if_pos ⟨by omega, h⟩]
  · rw [if_neg g]
    by_cases c : i < (k : Int) ∧ gb p i = true
    · rw [if_pos c, if_pos ⟨by omega, c.2⟩]
    · rw [if_neg c, if_neg (fun d => c ⟨by omega, d.2⟩)]
theorem wayP_skip (f t p : BitVec 32) (k : Nat) (h : gb p k = false) : wayP f t p k = wayP f t p ((k : Int) + 1) := by
  apply gb_ext; intro i i0 i1
  rw [gb_wayP f t p k i i0 i1, gb_wayP f t p _ i i0 i1]
  by_cases g : i = k
  · subst g; rw [h]; simp
  · by_cases c : i < (k : Int) ∧ gb p i = true
    · rw [if_pos c, if_pos ⟨by omega, c.2⟩]
    · rw [if_neg c, if_neg (fun d => c ⟨by omega, d.2⟩)]
theorem wayP_end (f t p : BitVec 32) : wayP f t p 32 = partB f t p := by
  apply gb_ext; intro i i0 i1
  rw [gb_wayP f t p 32 i i0 i1, gb_part]
  by_cases h : gb p i = true
  · rw [if_pos ⟨i1, h⟩, if_pos h]
  · rw [if_neg (fun d => h d.2), if_neg h]

/-- A word whose bits below k are turned already. -/
def turnP (x : BitVec 32) (m k : Int) : BitVec 32 := turnB (x &&& lowB k) m
theorem gb_turnP (x : BitVec 32) (m k i : Int) (i0 : 0 ≤ i) (i1 : i < 32) : gb (turnP x m k) i = (gb x ((i - m) % 32) && decide ((i - m) % 32 < k)) := by
  unfold turnP
  rw [gb_turn _ _ _ i0 i1, gb_and, gb_low]
  have a : 0 ≤ (i - m) % 32 := by omega
  have b : (i - m) % 32 < 32 := by omega
  simp only [a, b, true_and]
theorem turnP_start (x : BitVec 32) (m : Int) : turnP x m 0 = 0#32 := by
  apply gb_ext; intro i i0 i1
  rw [gb_turnP x m 0 i i0 i1, gb_zero]
  have : ¬ (i - m) % 32 < 0 := by omega
  simp only [this, decide_false, Bool.and_false]
theorem turnP_step (x : BitVec 32) (m : Int) (k : Nat) (hk : k < 32) : setB (turnP x m k) ((k + m) % 32) (gb x k) = turnP x m ((k : Int) + 1) := by
  apply gb_ext; intro i i0 i1
  rw [gb_set _ _ _ _ i0 i1, gb_turnP x m k i i0 i1, gb_turnP x m _ i i0 i1]
  by_cases h : i = (k + m) % 32
  · have e : (i - m) % 32 = k := by omega
    rw [if_pos h, e, show decide ((k : Int) < (k : Int) + 1) = true from decide_eq_true (by omega), Bool.and_true]
  · have e : (i - m) % 32 < (k : Int) + 1 ↔ (i - m) % 32 < (k : Int) := by omega
    rw [if_neg h, decide_eq_decide.mpr e]
theorem turnP_end (x : BitVec 32) (m : Int) : turnP x (m % 32) 32 = turnB x m := by
  apply gb_ext; intro i i0 i1
  rw [gb_turnP x _ 32 i i0 i1, gb_turn _ _ _ i0 i1]
  have a : (i - m % 32) % 32 = (i - m) % 32 := by omega
  have b : (i - m) % 32 < 32 := by omega
  rw [a]; simp [b]
end Go.Proofs.Ytedpeojgpnnddaa.Bm
