/- Plain mathematics of layer bits' statements: what was put is got, a word is its fields, rotations add up. -/
import Derived.Test.YtedpeojgpnnddaaBitsMem
namespace Go.Proofs.Ytedpeojgpnnddaa.Bm
open Go Go.RowKit

theorem back1 (x : BitVec 32) (a n : Int) (a0 : 0 ≤ a) (a1 : a < 32) :
    fieldB (putB x a n (~~~fieldB x a n)) a n = ~~~fieldB x a n &&& fieldB (BitVec.allOnes 32) a n := by
  apply gb_ext; intro i h0 h1
  rw [gb_field, gb_put, gb_and, gb_not, gb_field, gb_field, gb_ones]
  rw [show a + i - a = i by omega]
  by_cases h : i < n
  · by_cases g : a + i < 32
    · have q1 : 0 ≤ a + i := by omega
      simp [h0, h1, h, g, q1, gb_not, gb_field]
    · have o : gb x (a + i) = false := gb_out (by omega)
      simp [h0, h1, h, g, o]
  · simp [h]
theorem back2 (x v : BitVec 32) (a n : Int) : putB (putB x a n v) a n (fieldB x a n) = x := by
  apply gb_ext; intro i h0 h1
  rw [gb_put, gb_put, gb_field]
  by_cases h : 0 ≤ i ∧ i < 32 ∧ 0 ≤ i - a ∧ i - a < 32 ∧ i - a < n
  · rw [if_pos h, show a + (i - a) = i by omega]
    have : 0 ≤ i - a ∧ i - a < 32 ∧ i - a < n := h.2.2
    simp only [this, and_self, decide_true, Bool.true_and]
  · rw [if_neg h, if_neg h]
theorem back3 (x v : BitVec 32) (a n : Int) : fieldB (putB x a n v) 0 a = fieldB x 0 a := by
  apply gb_ext; intro i h0 h1
  rw [gb_field, gb_field, gb_put, Int.zero_add]
  by_cases h : i < a
  · rw [if_neg (by omega)]
  · have : ¬ (0 ≤ i ∧ i < 32 ∧ i < a) := fun k => h k.2.2
    simp [this]
theorem back4 (x v : BitVec 32) (a n : Int) : fieldB (putB x a n v) (a + n) 32 = fieldB x (a + n) 32 := by
  apply gb_ext; intro i h0 h1
  rw [gb_field, gb_field, gb_put, if_neg (by omega)]
theorem parts1 (x : BitVec 32) (k : Int) (h0 : 0 ≤ k) (h1 : k < 33) : putB (putB 0#32 0 k (fieldB x 0 k)) k (32 - k) (fieldB x k (32 - k)) = x := by
  apply gb_ext; intro i i0 i1
  rw [gb_put, gb_put, gb_field, gb_field]
  by_cases h : i < k
  · rw [if_neg (by omega), if_pos (by omega)]
    simp [h, i0, i1]
  · rw [if_pos (by omega), show k + (i - k) = i by omega]
    have : 0 ≤ i - k ∧ i - k < 32 ∧ i - k < 32 - k := by omega
    simp only [this, and_self, decide_true, Bool.true_and]
theorem parts2 (x : BitVec 32) (k : Int) : fieldB (fieldB x k 32) 0 (32 - k) = fieldB x k (32 - k) := by
  apply gb_ext; intro i i0 i1
  rw [gb_field, gb_field, gb_field, Int.zero_add]
  simp [i0, i1]
theorem sign_low (v : BitVec 32) (k : Int) (h0 : 1 ≤ k) (h1 : k < 32) : fieldB (signB v k) 0 k = fieldB v 0 k := by
  apply gb_ext; intro i i0 i1
  rw [gb_field, gb_field, Int.zero_add, gb_sign v k i h0 h1 i0 i1]
  by_cases h : i < k
  · rw [if_pos h]
  · simp [h]
theorem turn_turn (x : BitVec 32) (a b : Int) : turnB (turnB x a) b = turnB x (a + b) := by
  apply gb_ext; intro i i0 i1
  rw [gb_turn _ b i i0 i1, gb_turn _ a _ (by omega) (by omega), gb_turn _ (a + b) i i0 i1]
  congr 1; omega
theorem turn_full (x : BitVec 32) : turnB x 32 = x := by
  apply gb_ext; intro i i0 i1
  rw [gb_turn _ _ i i0 i1]; congr 1; omega
theorem turn_back (x : BitVec 32) (a : Int) : turnB (turnB x a) (-a) = x := by
  rw [turn_turn]
  apply gb_ext; intro i i0 i1
  rw [gb_turn _ _ i i0 i1]; congr 1; omega
theorem way1 (f t : BitVec 32) : partB f t (BitVec.allOnes 32) = t := by
  apply gb_ext; intro i i0 i1
  rw [gb_part, gb_ones]; simp [i0, i1]
theorem way2 (f t : BitVec 32) : partB f t 0#32 = f := by
  apply gb_ext; intro i i0 i1
  rw [gb_part, gb_zero]; simp
theorem way3 (f t p q : BitVec 32) : partB (partB f t p) t q = partB f t (p ||| q) := by
  apply gb_ext; intro i i0 i1
  rw [gb_part, gb_part, gb_part, gb_or]
  cases gb p i <;> cases gb q i <;> simp
theorem way4 (f t p : BitVec 32) : (partB f t p ^^^ f) &&& ~~~(f ^^^ t) = 0#32 := by
  apply gb_ext; intro i i0 i1
  rw [gb_and, gb_xor, gb_part, gb_not, gb_xor, gb_zero]
  cases gb p i <;> cases gb f i <;> cases gb t i <;> simp [i0, i1]
/-- A number of k bits with its sign lies between the two ends. -/
theorem sign_ends (v : BitVec 32) (k : Nat) (h0 : 1 ≤ k) (h1 : k < 32) : -(2 : Int) ^ (k - 1) ≤ (signB v k).toInt ∧ (signB v k).toInt < 2 ^ (k - 1) := by
  have e : signB v k = (BitVec.setWidth k v).signExtend 32 := by
    apply gb_ext; intro i i0 i1
    rw [gb_sign v k i (by omega) (by omega) i0 i1]
    unfold gb
    rw [BitVec.getLsbD_signExtend]
    simp only [BitVec.getLsbD_setWidth, BitVec.msb_eq_getLsbD_last]
    have a : decide (i.toNat < 32) = true := by simp; omega
    have b : decide (0 ≤ i) = true := by simpa using i0
    have c : decide (0 ≤ (k : Int) - 1) = true := by simp; omega
    have d : ((k : Int) - 1).toNat = k - 1 := by omega
    have f : decide (k - 1 < k) = true := by simp; omega
    by_cases h : i < k
    · have g : i.toNat < k := by omega
      have i2 : i.toNat < 32 := by omega
      simp only [h, g, b, i2, if_true, decide_true, Bool.true_and]
    · have g : ¬ i.toNat < k := by omega
      rw [if_neg h, if_neg g, a, b, c, d, f]; simp
  rw [e, BitVec.toInt_signExtend_of_le (by omega)]
  have p := BitVec.le_toInt (BitVec.setWidth k v)
  have q := @BitVec.toInt_lt k (BitVec.setWidth k v)
  exact ⟨p, q⟩

/-- Bit i of a word as a number; how many bits a word has below k. -/
def bitI (x : BitVec 32) (i : Int) : Int := if gb x i then 1 else 0
theorem bitI_le (x : BitVec 32) (i : Int) : bitI x i ≤ 1 := by unfold bitI; split <;> omega
theorem bitI_nonneg (x : BitVec 32) (i : Int) : 0 ≤ bitI x i := by unfold bitI; split <;> omega
theorem bit_and1 (x : BitVec 32) (k : Nat) : bits .and .u32 (U x / 2 ^ k) 1 = bitI x k := by
  rw [U_shr, show (1 : Int) = U 1#32 from rfl, U_and]
  unfold bitI
  rw [gb_nat]
  have e : (x >>> k &&& 1#32) = if x.getLsbD k then 1#32 else 0#32 := by
    apply BitVec.eq_of_getLsbD_eq
    intro i hi
    rw [BitVec.getLsbD_and, BitVec.getLsbD_ushiftRight]
    cases i with
    | zero => cases x.getLsbD k <;> simp
    | succ i => cases x.getLsbD k <;> simp
  rw [e]; split <;> rfl
def sm (f : Nat → Int) : Nat → Int
  | 0 => 0
  | k + 1 => sm f k + f k
theorem sm_congr {f g : Nat → Int} : ∀ n, (∀ i, i < n → f i = g i) → sm f n = sm g n
  | 0, _ => rfl
  | n + 1, h => by
    show sm f n + f n = sm g n + g n
    rw [sm_congr n (fun i hi => h i (by omega)), h n (by omega)]
theorem sm_one (f : Nat → Int) : sm (fun i => f ((i + 1) % 32)) 32 = sm f 32 := by
  simp only [sm]
  simp only [show (0 + 1) % 32 = 1 from rfl, show (1 + 1) % 32 = 2 from rfl, show (31 + 1) % 32 = 0 from rfl]
  simp only [Nat.reduceAdd, Nat.reduceMod]
  omega
theorem sm_rot (f : Nat → Int) : ∀ s, sm (fun i => f ((i + s) % 32)) 32 = sm f 32
  | 0 => sm_congr 32 fun i hi => by show f ((i + 0) % 32) = f i; congr 1; omega
  | s + 1 => by
    rw [← sm_rot f s, ← sm_one (fun i => f ((i + s) % 32))]
    exact sm_congr 32 fun i _ => by show f _ = f _; congr 1; omega
def cnt (x : BitVec 32) (k : Nat) : Int := sm (fun i => bitI x i) k
theorem cnt_zero (x : BitVec 32) : cnt x 0 = 0 := rfl
theorem cnt_succ (x : BitVec 32) (k : Nat) : cnt x (k + 1) = cnt x k + bitI x k := rfl
theorem cnt_bd (x : BitVec 32) : ∀ k : Nat, 0 ≤ cnt x k ∧ cnt x k ≤ k
  | 0 => ⟨Int.le_refl _, Int.le_refl _⟩
  | k + 1 => by
    have a := cnt_bd x k; have b := bitI_le x k; have c := bitI_nonneg x k
    rw [cnt_succ]; omega
theorem cnt_turn (x : BitVec 32) (a : Int) : cnt (turnB x a) 32 = cnt x 32 := by
  unfold cnt
  rw [← sm_rot (fun i => bitI x i) ((-a) % 32).toNat]
  refine sm_congr 32 fun i hi => ?_
  show bitI _ _ = bitI _ _
  unfold bitI
  rw [gb_turn _ _ _ (by omega) (by omega)]
  have : ((i : Int) - a) % 32 = (((i + ((-a) % 32).toNat) % 32 : Nat) : Int) := by omega
  rw [this]
end Go.Proofs.Ytedpeojgpnnddaa.Bm
