/- Plain mathematics of layer alu: what any two numbers come to, by the names' numbers; branches, exchanges, loads, sizes. -/
import Derived.Test.YtffmbpenhgbhnaaBitsMem
import Derived.Test.YtffmbpenhgbhnaaBitsRefMath
namespace Go.Proofs.Ytffmbpenhgbhnaa.Bm
open Go Go.RowKit

def uwA (i : Int) : BitVec 32 := BitVec.ofInt 32 i
theorem U_uwA (i : Int) : U (uwA i) = i % 4294967296 := by
  unfold uwA U
  rw [BitVec.toNat_ofInt]
  omega
theorem wrap_uwA (a : Int) : IntKind.u32.wrap a = U (uwA a) := by rw [IntKind.wrap_u32, U_uwA]
theorem uwA_U (x : BitVec 32) : uwA (U x) = x := by
  unfold uwA U
  rw [BitVec.ofInt_natCast, BitVec.ofNat_toNat]
  simp
theorem uwA_toInt (x : BitVec 32) : uwA x.toInt = x := by unfold uwA; simp
theorem uwA_eq {a b : Int} (h : a % 4294967296 = b % 4294967296) : uwA a = uwA b := U_inj (by rw [U_uwA, U_uwA, h])
theorem uwA_mul (a b : Int) : uwA a * uwA b = uwA (a * b) := by unfold uwA; rw [BitVec.ofInt_mul]
theorem uwA_add (a b : Int) : uwA a + uwA b = uwA (a + b) := by unfold uwA; rw [BitVec.ofInt_add]
theorem tI_U (x : BitVec 32) : x.toInt = if U x < 2147483648 then U x else U x - 4294967296 := by
  rw [BitVec.toInt_eq_toNat_cond]; unfold U
  split <;> split <;> omega
theorem tI_b (x : BitVec 32) : -2147483648 ≤ x.toInt ∧ x.toInt < 2147483648 := by
  have h := tI_U x
  have := U_nonneg x
  have := U_lt x
  split at h <;> omega
theorem wrap32_tI (y : BitVec 32) : IntKind.i32.wrap (U y) = y.toInt := by
  have h := tI_U y
  have := U_nonneg y
  have := U_lt y
  rw [h, IntKind.wrap_i32]
  split <;> omega
theorem tI_uwA {i : Int} (h0 : -2147483648 ≤ i) (h1 : i < 2147483648) : (uwA i).toInt = i := by
  have h := tI_U (uwA i)
  rw [U_uwA] at h
  split at h <;> omega
def oneB (b : Bool) : BitVec 32 := if b then 1#32 else 0#32

/-- Two numbers, by the name's number behind Add. -/
def aOp (k : Nat) (a b : BitVec 32) : BitVec 32 := match k with
  | 0 => a + b
  | 1 => a - b
  | 2 => a <<< (b.toNat % 32)
  | 3 => oneB (decide (a.toInt < b.toInt))
  | 4 => oneB (decide (U a < U b))
  | 5 => a ^^^ b
  | 6 => a >>> (b.toNat % 32)
  | 7 => a.sshiftRight (b.toNat % 32)
  | 8 => a ||| b
  | 9 => a &&& b
  | 10 => a * b
  | 11 => uwA (a.toInt * b.toInt / 4294967296)
  | 12 => uwA (a.toInt * U b / 4294967296)
  | 13 => uwA (U a * U b / 4294967296)
  | 14 => if b = 0#32 then BitVec.allOnes 32 else uwA (a.toInt.tdiv b.toInt)
  | 15 => if b = 0#32 then BitVec.allOnes 32 else uwA ((U a).tdiv (U b))
  | 16 => if b = 0#32 then a else uwA (a.toInt.tmod b.toInt)
  | _ => if b = 0#32 then a else uwA ((U a).tmod (U b))
def sameL : List Int := [28, 31, 32, 33, 36, 37, 30, 34, 35]
def sameN (n : Int) : Int := if n < 19 ∨ 27 < n then n else sameL.getD (n - 19).toNat 0
def doIs (n : Int) : Bool := decide (28 ≤ sameN n) && decide (sameN n ≤ 45)
def doM (n : Int) (a b : BitVec 32) : BitVec 32 := if doIs n then aOp (sameN n - 28).toNat a b else 0#32
/-- Does a branch go, by the name's number behind Beq? -/
def bOp (k : Nat) (a b : BitVec 32) : Bool := match k with
  | 0 => a == b
  | 1 => !(a == b)
  | 2 => decide (a.toInt < b.toInt)
  | 3 => decide (b.toInt ≤ a.toInt)
  | 4 => decide (U a < U b)
  | _ => decide (U b ≤ U a)
def brIs (n : Int) : Bool := decide (5 ≤ n) && decide (n ≤ 10)
def brM (n : Int) (a b : BitVec 32) : Bool := brIs n && bOp (n - 5).toNat a b
/-- What is put in the place of what there was, by the name's number behind Amoswap. -/
def mOp (k : Nat) (a b : BitVec 32) : BitVec 32 := match k with
  | 0 => b
  | 1 => a + b
  | 2 => a ^^^ b
  | 3 => a &&& b
  | 4 => a ||| b
  | 5 => if a.toInt < b.toInt then a else b
  | 6 => if b.toInt < a.toInt then a else b
  | 7 => if U a < U b then a else b
  | _ => if U b < U a then a else b
def amIs (n : Int) : Bool := decide (48 ≤ n) && decide (n ≤ 56)
def amM (n : Int) (a b : BitVec 32) : BitVec 32 := if amIs n then mOp (n - 48).toNat a b else 0#32
/-- What is read of a word, by the name's number behind Lb. -/
def lOp (k : Nat) (w : BitVec 32) : BitVec 32 := match k with
  | 0 => signB (w &&& 255#32) 8
  | 1 => signB (w &&& 65535#32) 16
  | 2 => w
  | 3 => w &&& 255#32
  | _ => w &&& 65535#32
def ldIs (n : Int) : Bool := decide (11 ≤ n) && decide (n ≤ 15)
def ldM (n : Int) (w : BitVec 32) : BitVec 32 := if ldIs n then lOp (n - 11).toNat w else 0#32
def szM (n : Int) : Int := if n = 11 ∨ n = 14 ∨ n = 16 then 1 else if n = 12 ∨ n = 15 ∨ n = 17 then 2 else if n = 13 ∨ n = 18 ∨ (46 ≤ n ∧ n ≤ 56) then 4 else 0

/-! ### The document's ways to reckon them -/
theorem gb_sshr (a : BitVec 32) (n : Nat) (i : Int) (h0 : 0 ≤ i) (h1 : i < 32) : gb (a.sshiftRight n) i = if i + n < 32 then gb a (i + n) else gb a 31 := by
  unfold gb
  rw [BitVec.getLsbD_sshiftRight]
  have e1 : ¬ 32 ≤ i.toNat := by omega
  have e2 : (i + (n : Int)).toNat = n + i.toNat := by omega
  have e3 : decide (0 ≤ i) = true := by simpa using h0
  have e4 : decide (0 ≤ i + (n : Int)) = true := by simp; omega
  rw [e2, e3, e4]
  by_cases h : i + n < 32
  · have : n + i.toNat < 32 := by omega
    simp [e1, h, this]
  · have : ¬ n + i.toNat < 32 := by omega
    simp only [e1, h, this, decide_false, Bool.not_false, Bool.true_and, if_false]
    rw [BitVec.msb_eq_getLsbD_last]
    simp
theorem sign_sshr (a : BitVec 32) (n : Nat) (h : n < 32) : signB (a >>> n) (32 - (n : Int)) = a.sshiftRight n := by
  have es : a >>> n = shiftB a (-(n : Int)) := by
    unfold shiftB
    by_cases h0 : n = 0
    · subst h0; simp
    · rw [if_pos (by omega)]
      congr 1
      omega
  apply gb_ext; intro i h0 h1
  rw [gb_sshr a n i h0 h1]
  by_cases hn : n = 0
  · subst hn
    unfold signB
    rw [if_pos (by omega)]
    simp
    intro h2; omega
  · rw [gb_sign _ _ _ (by omega) (by omega) h0 h1, es, gb_shift, gb_shift]
    have d0 : decide (0 ≤ i ∧ i < 32) = true := by simp; omega
    have d1 : decide (0 ≤ 32 - (n : Int) - 1 ∧ 32 - (n : Int) - 1 < 32) = true := by simp; omega
    rw [d0, d1, Bool.true_and, Bool.true_and, show i - -(n : Int) = i + n by omega, show 32 - (n : Int) - 1 - -(n : Int) = 31 by omega]
    by_cases h2 : i + n < 32
    · rw [if_pos h2, if_pos (by omega)]
    · rw [if_neg h2, if_neg (by omega)]
/-- The high half of a product, of which none, one or both numbers are signed. -/
theorem prod_b (a b : BitVec 32) : 0 ≤ U a * U b ∧ U a * U b ≤ 18446744065119617025 := by
  have ha := U_lt a
  have hb := U_lt b
  refine ⟨Int.mul_nonneg (U_nonneg a) (U_nonneg b), ?_⟩
  exact Int.mul_le_mul (c := 4294967295) (d := 4294967295) (by omega) (by omega) (U_nonneg b) (by omega)
theorem high0 (a b : BitVec 32) : U a * U b % 18446744073709551616 / 4294967296 % 4294967296 = U (aOp 13 a b) := by
  show _ = U (uwA _)
  rw [U_uwA]
  have h := prod_b a b
  rw [Int.emod_eq_of_lt h.1 (by omega)]
theorem high1n (a b : BitVec 32) (h : ¬ 2147483648 ≤ U a) : aOp 12 a b = aOp 13 a b := by
  show uwA (a.toInt * U b / 4294967296) = uwA (U a * U b / 4294967296)
  rw [tI_U, if_pos (by omega)]
theorem high1 (a b : BitVec 32) (h : 2147483648 ≤ U a) : (U (aOp 13 a b) - U b) % 4294967296 = U (aOp 12 a b) := by
  show (U (uwA (U a * U b / 4294967296)) - U b) % 4294967296 = U (uwA (a.toInt * U b / 4294967296))
  rw [U_uwA, U_uwA, tI_U, if_neg (by omega), Int.sub_mul]
  generalize U a * U b = p
  generalize U b = q
  omega
theorem high2 (a b : BitVec 32) (h : 2147483648 ≤ U b) : (U (aOp 12 a b) - U a) % 4294967296 = U (aOp 11 a b) := by
  show (U (uwA (a.toInt * U b / 4294967296)) - U a) % 4294967296 = U (uwA (a.toInt * b.toInt / 4294967296))
  have e : a.toInt % 4294967296 = U a % 4294967296 := by
    have := tI_U a
    split at this <;> omega
  rw [U_uwA, U_uwA, tI_U b, if_neg (by omega), Int.mul_sub]
  generalize a.toInt * U b = p
  generalize a.toInt = t at *
  generalize U a = q at *
  omega
theorem high2n (a b : BitVec 32) (h : ¬ 2147483648 ≤ U b) : aOp 11 a b = aOp 12 a b := by
  show uwA (a.toInt * b.toInt / 4294967296) = uwA (a.toInt * U b / 4294967296)
  rw [tI_U b, if_pos (by omega)]
theorem U_tI (x : BitVec 32) : U x = x.toInt % 4294967296 := by
  have h := tI_U x
  have := U_nonneg x
  have := U_lt x
  split at h <;> omega
theorem U_sshr (a : BitVec 32) (n : Nat) : a.toInt / 2 ^ n % 4294967296 = U (a.sshiftRight n) := by
  rw [U_tI, BitVec.toInt_sshiftRight, Int.shiftRight_eq_div_pow, Int.natCast_pow]
  rfl
/-- Bits 32 to 63 of a product, whose factors were taken modulo 2^64. -/
theorem up_mod (x y : Int) : (x % 18446744073709551616) * (y % 18446744073709551616) % 18446744073709551616 / 4294967296 % 4294967296 = U (uwA (x * y / 4294967296)) := by
  rw [U_uwA, ← Int.mul_emod]
  generalize x * y = z
  omega
theorem tdiv_b (x y : Int) : (x.tdiv y).natAbs ≤ x.natAbs := by rw [Int.natAbs_tdiv]; exact Nat.div_le_self _ _
theorem tmod_b (x y : Int) : (x.tmod y).natAbs ≤ x.natAbs := by rw [Int.natAbs_tmod]; exact Nat.mod_le _ _
theorem u32_i32 (z : Int) : IntKind.u32.wrap (IntKind.i32.wrap z) = U (uwA z) := by rw [IntKind.wrap_u32, IntKind.wrap_i32, U_uwA]; omega
theorem U_tmod (a b : BitVec 32) : (U a).tmod (U b) = U (uwA ((U a).tmod (U b))) := by
  have h := tmod_b (U a) (U b)
  have h0 : 0 ≤ (U a).tmod (U b) := Int.tmod_nonneg _ (U_nonneg a)
  have h1 := U_lt a
  have h2 := U_nonneg a
  rw [U_uwA]
  generalize (U a).tmod (U b) = t at *
  omega
theorem u32_w32 (z : Int) : wrap32 z % 4294967296 = U (uwA z) := by rw [U_uwA]; unfold wrap32; omega
theorem low_lit (i : Int) (h0 : 0 ≤ i) (h1 : i < 32) : gb 255#32 i = decide (i < 8) ∧ gb 65535#32 i = decide (i < 16) := by
  have : ∀ k : Fin 32, gb 255#32 (k.val : Int) = decide ((k.val : Int) < 8) ∧ gb 65535#32 (k.val : Int) = decide ((k.val : Int) < 16) := by decide
  have h := this ⟨i.toNat, by omega⟩
  have e : ((i.toNat : Nat) : Int) = i := by omega
  rw [e] at h
  exact h
theorem lOp_0 (a : BitVec 32) : lOp 0 a = signB a 8 := by
  apply gb_ext; intro i h0 h1
  show gb (signB (a &&& 255#32) 8) i = _
  rw [gb_sign _ _ _ (by omega) (by omega) h0 h1, gb_sign _ _ _ (by omega) (by omega) h0 h1, gb_and, gb_and, (low_lit i h0 h1).1, (low_lit (8 - 1) (by omega) (by omega)).1]
  by_cases h : i < 8 <;> simp [h]
theorem lOp_1 (a : BitVec 32) : lOp 1 a = signB a 16 := by
  apply gb_ext; intro i h0 h1
  show gb (signB (a &&& 65535#32) 16) i = _
  rw [gb_sign _ _ _ (by omega) (by omega) h0 h1, gb_sign _ _ _ (by omega) (by omega) h0 h1, gb_and, gb_and, (low_lit i h0 h1).2, (low_lit (16 - 1) (by omega) (by omega)).2]
  by_cases h : i < 16 <;> simp [h]
theorem lOp_3 (a : BitVec 32) : lOp 3 a = fieldB a 0 8 := by
  apply gb_ext; intro i h0 h1
  show gb (a &&& 255#32) i = _
  rw [gb_field, gb_and, (low_lit i h0 h1).1, Int.zero_add]
  by_cases h : i < 8 <;> simp [h, h0, h1]
theorem lOp_4 (a : BitVec 32) : lOp 4 a = fieldB a 0 16 := by
  apply gb_ext; intro i h0 h1
  show gb (a &&& 65535#32) i = _
  rw [gb_field, gb_and, (low_lit i h0 h1).2, Int.zero_add]
  by_cases h : i < 16 <;> simp [h, h0, h1]
end Go.Proofs.Ytffmbpenhgbhnaa.Bm
