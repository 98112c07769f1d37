/- Plain mathematics of 32-bit words for layer bits: words as BitVec 32, their bits, fields, rotations, and the integer forms in which a walk meets them. -/
import Derived.WalkKit
namespace Go.Proofs.Ytfpfcmgcfbkolaa.Bm
open Go Go.RowKit

/-- A word as a walk has it. -/
def U (x : BitVec 32) : Int := (x.toNat : Int)
theorem U_nonneg (x : BitVec 32) : 0 ≤ U x := Int.natCast_nonneg _
theorem U_lt (x : BitVec 32) : U x < 4294967296 := by have := x.isLt; unfold U; omega
theorem U_inj {x y : BitVec 32} (h : U x = U y) : x = y := by
  unfold U at h; exact BitVec.eq_of_toNat_eq (by omega)
theorem U_of {a : Int} (h0 : 0 ≤ a) (h1 : a < 4294967296) : ∃ x : BitVec 32, a = U x :=
  ⟨BitVec.ofNat 32 a.toNat, by unfold U; simp only [BitVec.toNat_ofNat]; omega⟩
theorem U_eq_iff {x y : BitVec 32} : U x = U y ↔ x = y := ⟨U_inj, fun h => by rw [h]⟩
theorem U_beq (x y : BitVec 32) : (U x == U y) = (x == y) := by
  rw [Bool.eq_iff_iff]; simp only [beq_iff_eq, U_eq_iff]
theorem U_wf (x : BitVec 32) : (Lit.int .u32 (U x)).wf = true := by
  have h0 := U_nonneg x; have h1 := U_lt x
  simp [Lit.wf, IntKind.signed, IntKind.bits, IntKind.min, IntKind.max]; omega
theorem U_ofNat (n : Nat) (h : n < 4294967296) : U (BitVec.ofNat 32 n) = (n : Int) := by
  unfold U; simp only [BitVec.toNat_ofNat]; omega
@[go_sem] theorem U_and (x y : BitVec 32) : bits .and .u32 (U x) (U y) = U (x &&& y) := by
  unfold U; rw [u32_and_nat _ _ x.isLt y.isLt, BitVec.toNat_and]
@[go_sem] theorem U_or (x y : BitVec 32) : bits .or .u32 (U x) (U y) = U (x ||| y) := by
  unfold U; rw [u32_or_nat _ _ x.isLt y.isLt, BitVec.toNat_or]
@[go_sem] theorem U_xor (x y : BitVec 32) : bits .xor .u32 (U x) (U y) = U (x ^^^ y) := by
  unfold U; rw [u32_xor_nat _ _ x.isLt y.isLt, BitVec.toNat_xor]
@[go_sem] theorem U_andNot (x y : BitVec 32) : bits .andNot .u32 (U x) (U y) = U (x &&& ~~~y) := by
  unfold U; rw [u32_andNot_nat _ _ x.isLt y.isLt, BitVec.toNat_and, BitVec.toNat_not]
@[go_sem] theorem U_not (y : BitVec 32) : bits .xor .u32 4294967295 (U y) = U (~~~y) := by
  have h : (4294967295 : Int) = U (BitVec.allOnes 32) := by decide
  rw [h, U_xor, BitVec.allOnes_xor]
@[go_sem] theorem U_notMax (y : BitVec 32) : bits .xor .u32 IntKind.u32.max (U y) = U (~~~y) := U_not y
theorem U_shr (x : BitVec 32) (n : Nat) : U x / 2 ^ n = U (x >>> n) := by
  unfold U; rw [BitVec.toNat_ushiftRight, Nat.shiftRight_eq_div_pow]; simp
theorem U_shl (x : BitVec 32) (n : Nat) : U x * 2 ^ n % 4294967296 = U (x <<< n) := by
  unfold U; rw [BitVec.toNat_shiftLeft, Nat.shiftLeft_eq]; simp
theorem U_sub (x y : BitVec 32) : (U x - U y) % 4294967296 = U (x - y) := by
  have := x.isLt; have := y.isLt
  unfold U; rw [BitVec.toNat_sub]; omega
theorem U_add (x y : BitVec 32) : (U x + U y) % 4294967296 = U (x + y) := by
  unfold U; rw [BitVec.toNat_add]; omega
theorem U_mul (x y : BitVec 32) : (U x * U y) % 4294967296 = U (x * y) := by
  unfold U; rw [BitVec.toNat_mul]; simp

/-- Bit i of a word; 0 outside. -/
def gb (x : BitVec 32) (i : Int) : Bool := decide (0 ≤ i) && x.getLsbD i.toNat
theorem gb_nat (x : BitVec 32) (i : Nat) : gb x (i : Int) = x.getLsbD i := by simp [gb]
theorem gb_out {x : BitVec 32} {i : Int} (h : i < 0 ∨ 32 ≤ i) : gb x i = false := by
  unfold gb
  rcases h with h | h
  · simp; intro; omega
  · have : x.getLsbD i.toNat = false := BitVec.getLsbD_of_ge _ _ (by omega)
    simp [this]
theorem gb_ext {x y : BitVec 32} (h : ∀ i : Int, 0 ≤ i → i < 32 → gb x i = gb y i) : x = y := by
  apply BitVec.eq_of_getLsbD_eq
  intro i hi
  have := h (i : Int) (by omega) (by omega)
  rwa [gb_nat, gb_nat] at this
theorem gb_and (x y : BitVec 32) (i : Int) : gb (x &&& y) i = (gb x i && gb y i) := by
  unfold gb; rw [BitVec.getLsbD_and]; cases decide (0 ≤ i) <;> simp
theorem gb_or (x y : BitVec 32) (i : Int) : gb (x ||| y) i = (gb x i || gb y i) := by
  unfold gb; rw [BitVec.getLsbD_or]; cases decide (0 ≤ i) <;> simp
theorem gb_xor (x y : BitVec 32) (i : Int) : gb (x ^^^ y) i = (gb x i ^^ gb y i) := by
  unfold gb; rw [BitVec.getLsbD_xor]; cases decide (0 ≤ i) <;> simp
theorem gb_not (x : BitVec 32) (i : Int) : gb (~~~x) i = (decide (0 ≤ i ∧ i < 32) && !gb x i) := by
  unfold gb; rw [BitVec.getLsbD_not]
  by_cases h : 0 ≤ i
  · have : i.toNat < 32 ↔ i < 32 := by omega
    simp [h, this]
  · simp [h]
theorem gb_zero (i : Int) : gb 0#32 i = false := by unfold gb; simp
theorem gb_ones (i : Int) : gb (BitVec.allOnes 32) i = decide (0 ≤ i ∧ i < 32) := by
  unfold gb; rw [BitVec.getLsbD_allOnes]
  by_cases h : 0 ≤ i
  · have : i.toNat < 32 ↔ i < 32 := by omega
    simp [h, this]
  · simp [h]

/-- A word moved up by so many places, or down. -/
def shiftB (x : BitVec 32) (k : Int) : BitVec 32 := if k < 0 then x >>> (-k).toNat else x <<< k.toNat
theorem gb_shift (x : BitVec 32) (k i : Int) : gb (shiftB x k) i = (decide (0 ≤ i ∧ i < 32) && gb x (i - k)) := by
  by_cases hi : 0 ≤ i
  · by_cases hi2 : i < 32
    · unfold shiftB gb
      by_cases hk : k < 0
      · rw [if_pos hk, BitVec.getLsbD_ushiftRight]
        have e : (-k).toNat + i.toNat = (i - k).toNat := by omega
        have p : 0 ≤ i - k := by omega
        simp only [e, hi, hi2, p, decide_true, and_self, Bool.true_and]
      · rw [if_neg hk, BitVec.getLsbD_shiftLeft]
        by_cases hl : i < k
        · have a : i.toNat < k.toNat := by omega
          have p : decide (0 ≤ i - k) = false := by simp; omega
          rw [p]; simp [a]
        · have a : ¬ i.toNat < k.toNat := by omega
          have p : decide (0 ≤ i - k) = true := by simp; omega
          have e : i.toNat - k.toNat = (i - k).toNat := by omega
          have b : i.toNat < 32 := by omega
          rw [p, e]; simp [a, b, hi, hi2]
    · rw [gb_out (Or.inr (by omega))]; simp [hi2]
  · rw [gb_out (Or.inl (by omega))]; simp [hi]

/-- The word whose lowest n bits are set. -/
def lowB (n : Int) : BitVec 32 := if n < 1 then 0#32 else if 32 ≤ n then BitVec.allOnes 32 else (1#32 <<< n.toNat) - 1#32
theorem low_mid (n : Nat) (h : n < 32) : ((1#32 <<< n) - 1#32).toNat = 2 ^ n - 1 := by
  have h2 : 2 ^ n < 2 ^ 32 := Nat.pow_lt_pow_right (by decide) h
  have h1 : 0 < 2 ^ n := Nat.two_pow_pos n
  rw [BitVec.toNat_sub, BitVec.toNat_shiftLeft, Nat.shiftLeft_eq]
  simp only [BitVec.toNat_ofNat]
  rw [show 1 % 2 ^ 32 = 1 from rfl, Nat.one_mul, Nat.mod_eq_of_lt h2]
  omega
theorem gb_low (n i : Int) : gb (lowB n) i = decide (0 ≤ i ∧ i < 32 ∧ i < n) := by
  by_cases hi : 0 ≤ i ∧ i < 32
  · obtain ⟨a, b⟩ := hi
    unfold lowB
    by_cases h1 : n < 1
    · rw [if_pos h1, gb_zero]
      have : ¬ i < n := by omega
      simp [this]
    · rw [if_neg h1]
      by_cases h2 : 32 ≤ n
      · rw [if_pos h2, gb_ones]
        have : i < n := by omega
        simp [this]
      · rw [if_neg h2]
        unfold gb
        rw [BitVec.getLsbD, low_mid _ (by omega), Nat.testBit_two_pow_sub_one]
        have : i.toNat < n.toNat ↔ i < n := by omega
        simp [a, b, this]
  · rw [gb_out (by omega)]
    have : ¬ (0 ≤ i ∧ i < 32 ∧ i < n) := fun h => hi ⟨h.1, h.2.1⟩
    simp [this]

/-- Field, Put, Partial, Sign, Turn. -/
def partB (f t p : BitVec 32) : BitVec 32 := (f &&& ~~~p) ||| (t &&& p)
def fieldB (x : BitVec 32) (at_ n : Int) : BitVec 32 := shiftB x (-at_) &&& lowB n
def putB (x : BitVec 32) (at_ n : Int) (v : BitVec 32) : BitVec 32 := partB x (shiftB v at_) (shiftB (lowB n) at_)
def signB (v : BitVec 32) (n : Int) : BitVec 32 :=
  if n < 1 ∨ 32 ≤ n then v else if gb v (n - 1) then v ||| ~~~lowB n else v &&& lowB n
def turnB (x : BitVec 32) (k : Int) : BitVec 32 := (x <<< (k % 32).toNat) ||| (x >>> (32 - k % 32).toNat)

theorem gb_part (f t p : BitVec 32) (i : Int) : gb (partB f t p) i = if gb p i then gb t i else gb f i := by
  by_cases hi : 0 ≤ i ∧ i < 32
  · unfold partB; rw [gb_or, gb_and, gb_and, gb_not]
    cases gb p i <;> simp [hi]
  · rw [gb_out (by omega), gb_out (x := t) (by omega), gb_out (x := f) (by omega)]; simp
theorem gb_field (x : BitVec 32) (at_ n i : Int) : gb (fieldB x at_ n) i = (decide (0 ≤ i ∧ i < 32 ∧ i < n) && gb x (at_ + i)) := by
  unfold fieldB; rw [gb_and, gb_shift, gb_low, show i - -at_ = at_ + i by omega]
  by_cases h : 0 ≤ i ∧ i < 32
  · simp [h]; by_cases g : i < n <;> simp [g]
  · have : ¬ (0 ≤ i ∧ i < 32 ∧ i < n) := fun g => h ⟨g.1, g.2.1⟩
    simp only [h, this, decide_false, Bool.false_and, Bool.and_false]
theorem gb_put (x : BitVec 32) (at_ n : Int) (v : BitVec 32) (j : Int) :
    gb (putB x at_ n v) j = if 0 ≤ j ∧ j < 32 ∧ 0 ≤ j - at_ ∧ j - at_ < 32 ∧ j - at_ < n then gb v (j - at_) else gb x j := by
  unfold putB; rw [gb_part, gb_shift, gb_shift, gb_low]
  by_cases h : 0 ≤ j ∧ j < 32
  · by_cases g : 0 ≤ j - at_ ∧ j - at_ < 32 ∧ j - at_ < n
    · simp [h, g]
    · have : ¬ (0 ≤ j ∧ j < 32 ∧ 0 ≤ j - at_ ∧ j - at_ < 32 ∧ j - at_ < n) := fun k => g k.2.2
      have g2 : decide (0 ≤ j - at_ ∧ j - at_ < 32 ∧ j - at_ < n) = false := by simpa using g
      rw [if_neg this, g2]; simp
  · have : ¬ (0 ≤ j ∧ j < 32 ∧ 0 ≤ j - at_ ∧ j - at_ < 32 ∧ j - at_ < n) := fun k => h ⟨k.1, k.2.1⟩
    rw [if_neg this]; simp [h]
theorem gb_sign (v : BitVec 32) (n i : Int) (h1 : 1 ≤ n) (h2 : n < 32) (hi : 0 ≤ i) (hi2 : i < 32) : gb (signB v n) i = if i < n then gb v i else gb v (n - 1) := by
  unfold signB; rw [if_neg (by omega)]
  by_cases hs : gb v (n - 1) = true
  · rw [if_pos hs, gb_or, gb_not, gb_low, hs]
    by_cases g : i < n <;> simp [g, hi, hi2]
  · have hs' : gb v (n - 1) = false := by simpa using hs
    rw [if_neg hs, gb_and, gb_low, hs']
    by_cases g : i < n <;> simp [g, hi, hi2]
theorem gb_turn (x : BitVec 32) (k i : Int) (hi : 0 ≤ i) (hi2 : i < 32) : gb (turnB x k) i = gb x ((i - k) % 32) := by
  have m0 : 0 ≤ k % 32 := by omega
  have m1 : k % 32 < 32 := by omega
  unfold turnB
  generalize hm : k % 32 = m at *
  have e1 : x <<< m.toNat = shiftB x m := by unfold shiftB; rw [if_neg (by omega)]
  have e2 : x >>> (32 - m).toNat = shiftB x (-(32 - m)) := by unfold shiftB; rw [if_pos (by omega)]; congr 1; omega
  rw [e1, e2, gb_or, gb_shift, gb_shift]
  by_cases h : i < m
  · rw [gb_out (x := x) (i := i - m) (by omega)]
    have : (i - k) % 32 = i - -(32 - m) := by omega
    simp [hi, hi2, this]
  · rw [gb_out (x := x) (i := i - -(32 - m)) (by omega)]
    have : (i - k) % 32 = i - m := by omega
    simp [hi, hi2, this]
end Go.Proofs.Ytfpfcmgcfbkolaa.Bm
