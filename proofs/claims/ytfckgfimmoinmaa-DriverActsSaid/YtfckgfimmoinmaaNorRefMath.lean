/- Plain mathematics of the document's own chip (layer nor): its bitwise AND, bit by bit. -/
import Derived.Test.YtfckgfimmoinmaaNorLawMath
import Derived.Test.YtfckgfimmoinmaaBitsRefMath
namespace Go.Proofs.Ytfckgfimmoinmaa
open Bm

theorem gb_bit0 (j : Int) (h0 : 0 ≤ j) (h1 : j < 32) (hj : j ≠ 0) : gb 1#32 j = false := by
  have h2 : ∀ k : Fin 32, k.val ≠ 0 → (1#32).getLsbD k.val = false := by decide
  have h3 := h2 ⟨j.toNat, by omega⟩ (by show j.toNat ≠ 0; omega)
  unfold gb
  rw [show (1#32).getLsbD j.toNat = false from h3]
  simp
theorem field_bit (x : BitVec 32) (i : Int) : U (fieldB x i 1) = bitI x i := by
  have h : fieldB x i 1 = if gb x i then 1#32 else 0#32 := by
    apply gb_ext; intro j h0 h1
    rw [gb_field]
    by_cases hj : j = 0
    · subst hj
      rw [Int.add_zero]
      cases gb x i <;> decide
    · have e : decide (0 ≤ j ∧ j < 32 ∧ j < 1) = false := by rw [decide_eq_false_iff_not]; omega
      rw [e, Bool.false_and]
      split
      · exact (gb_bit0 j h0 h1 hj).symm
      · exact (gb_zero j).symm
  rw [h]
  unfold bitI
  cases gb x i <;> rfl

theorem and_bits (x v : BitVec 32) (i : Int) : U (fieldB x i 1) * U (fieldB v i 1) = U (fieldB (x &&& v) i 1) := by
  rw [field_bit, field_bit, field_bit]
  unfold bitI
  rw [gb_and]
  cases gb x i <;> cases gb v i <;> rfl
theorem and_bits_le (x v : BitVec 32) (i : Int) : U (fieldB x i 1) * U (fieldB v i 1) < 4294967296 ∧ 0 ≤ U (fieldB x i 1) * U (fieldB v i 1) := by
  rw [and_bits]; exact ⟨U_lt _, U_nonneg _⟩
theorem and_start (z : BitVec 32) : fieldB z 0 0 = 0#32 := field_zero z 0
theorem and_step (z : BitVec 32) (k : Nat) (hk : k < 32) : putB (fieldB z 0 k) k 1 (fieldB z k 1) = fieldB z 0 ((k : Int) + 1) := by
  apply gb_ext; intro i h0 h1
  rw [gb_put, gb_field, gb_field, gb_field]
  by_cases h : i < (k : Int)
  · have e1 : decide (0 ≤ i ∧ i < 32 ∧ i < (k : Int) + 1) = true := by rw [decide_eq_true_iff]; omega
    have e2 : decide (0 ≤ i ∧ i < 32 ∧ i < (k : Int)) = true := by rw [decide_eq_true_iff]; omega
    rw [if_neg (by omega), e1, e2]
  · by_cases h2 : i = k
    · subst h2
      have e1 : decide (0 ≤ (k : Int) ∧ (k : Int) < 32 ∧ (k : Int) < (k : Int) + 1) = true := by rw [decide_eq_true_iff]; omega
      have e2 : decide (0 ≤ (k : Int) - k ∧ (k : Int) - k < 32 ∧ (k : Int) - k < 1) = true := by rw [decide_eq_true_iff]; omega
      rw [if_pos (by omega), e1, e2, Int.sub_self, Int.zero_add, Int.add_zero]
    · have e1 : decide (0 ≤ i ∧ i < 32 ∧ i < (k : Int) + 1) = false := by rw [decide_eq_false_iff_not]; omega
      have e2 : decide (0 ≤ i ∧ i < 32 ∧ i < (k : Int)) = false := by rw [decide_eq_false_iff_not]; omega
      rw [if_neg (by omega), e1, e2]
theorem and_end (z : BitVec 32) : fieldB z 0 32 = z := by
  apply gb_ext; intro i h0 h1
  rw [gb_field]
  have : decide (0 ≤ i ∧ i < 32 ∧ i < 32) = true := by rw [decide_eq_true_iff]; omega
  rw [this, Bool.true_and, Int.zero_add]
theorem set_parts (ws : List (BitVec 32)) (i : Nat) (x : BitVec 32) (h : i < ws.length) : ws.set i x = ws.take i ++ ([x] ++ ws.drop (i + 1)) := by
  rw [List.set_eq_take_append_cons_drop, if_pos h]; rfl
def mBurn (c : ChipM) : Bool := decide (c.left = 1)
theorem mErr_burn (c : ChipM) : mErr c = if mBurn c then 4 else 0 := by unfold mErr mBurn; by_cases h : c.left = 1 <;> simp [h]
end Go.Proofs.Ytfckgfimmoinmaa
