/- AluDivides: a quotient times the divisor, and the rest, is the number. -/
import Derived.Test.YtffmbpenhgbhnaaAluV
namespace Go.Proofs.Ytffmbpenhgbhnaa
open Go.RowKit Bm

namespace Bm
theorem do_lit (n : Int) (k : Nat) (a b : BitVec 32) (h : sameN n - 28 = k) (hk : k ≤ 17) : doM n a b = aOp k a b := by
  unfold doM
  have e : doIs n = true := by
    unfold doIs
    have h0 : 28 ≤ sameN n := by omega
    have h1 : sameN n ≤ 45 := by omega
    simp [h0, h1]
  rw [e, h]
  rfl
/-- The facts of a division by what is not 0. -/
theorem div_facts (a b : BitVec 32) (h : ¬ b = 0#32) :
    aOp 15 a b * b + aOp 17 a b = a ∧ U (aOp 17 a b) < U b ∧ aOp 14 a b * b + aOp 16 a b = a ∧ (aOp 16 a b).toInt = a.toInt.tmod b.toInt := by
  have e14 : aOp 14 a b = uwA (a.toInt.tdiv b.toInt) := by show (if b = 0#32 then _ else _) = _; rw [if_neg h]
  have e15 : aOp 15 a b = uwA ((U a).tdiv (U b)) := by show (if b = 0#32 then _ else _) = _; rw [if_neg h]
  have e16 : aOp 16 a b = uwA (a.toInt.tmod b.toInt) := by show (if b = 0#32 then _ else _) = _; rw [if_neg h]
  have e17 : aOp 17 a b = uwA ((U a).tmod (U b)) := by show (if b = 0#32 then _ else _) = _; rw [if_neg h]
  have hb : 0 < U b := by
    have := U_nonneg b
    have : U b ≠ 0 := fun e => h (U_inj (by rw [e]; rfl))
    omega
  refine ⟨?_, ?_, ?_, ?_⟩
  · rw [e15, e17]
    conv => lhs; lhs; rhs; rw [← uwA_U b]
    rw [uwA_mul, uwA_add, Int.mul_comm, Int.mul_tdiv_add_tmod, uwA_U]
  · rw [e17, ← U_tmod]
    exact Int.tmod_lt_of_pos _ hb
  · rw [e14, e16]
    conv => lhs; lhs; rhs; rw [← uwA_toInt b]
    rw [uwA_mul, uwA_add, Int.mul_comm, Int.mul_tdiv_add_tmod, uwA_toInt]
  · rw [e16]
    have h1 := tmod_b a.toInt b.toInt
    have hy : b.toInt ≠ 0 := fun e => h (BitVec.eq_of_toInt_eq (by rw [e]; rfl))
    have h2 : (a.toInt.tmod b.toInt).natAbs < b.toInt.natAbs := by rw [Int.natAbs_tmod]; exact Nat.mod_lt _ (by omega)
    have h3 := tI_b a
    have h4 := tI_b b
    exact tI_uwA (by omega) (by omega)
/-- The rest has the number's sign, and is below the divisor. -/
theorem rest_facts (a b : BitVec 32) (h : ¬ b = 0#32) : (0 ≤ a.toInt → 0 ≤ a.toInt.tmod b.toInt) ∧ (a.toInt < 0 → a.toInt.tmod b.toInt ≤ 0) ∧ (a.toInt.tmod b.toInt).natAbs < b.toInt.natAbs := by
  have hy : b.toInt ≠ 0 := fun e => h (BitVec.eq_of_toInt_eq (by rw [e]; rfl))
  refine ⟨fun h => Int.tmod_nonneg _ h, fun h => ?_, by rw [Int.natAbs_tmod]; exact Nat.mod_lt _ (by omega)⟩
  have := Int.tmod_nonneg (a := -a.toInt) b.toInt (by omega)
  rw [Int.neg_tmod] at this
  omega
end Bm
set_option maxHeartbeats 4000000 in
theorem aluDivides_walk (a0 : Int) (b0 : (Lit.int .u32 a0).wf = true) (a1 : Int) (b1 : (Lit.int .u32 a1).wf = true) (w : World) :
    Calls Try.prog 5 #[.int .u32 a0, .int .u32 a1] w fun e w' => e = .returned (.bool true) ∧ Below w.heap.size w w' := by
  have be := bounds_u32 b0
  have bf := bounds_u32 b1
  obtain ⟨a, rfl⟩ := U_of be.1 (by omega)
  obtain ⟨b, rfl⟩ := U_of bf.1 (by omega)
  have HA := Lib.hid alive12_any
  have H43 := Lib.hid (fun W => do12_any 43 a b _ (do_lit 43 15 a b (by decide) (by decide)) W)
  have H45 := Lib.hid (fun W => do12_any 45 a b _ (do_lit 45 17 a b (by decide) (by decide)) W)
  have H42 := Lib.hid (fun W => do12_any 42 a b _ (do_lit 42 14 a b (by decide) (by decide)) W)
  have H44 := Lib.hid (fun W => do12_any 44 a b _ (do_lit 44 16 a b (by decide) (by decide)) W)
  clear b0 b1 be bf
  by_cases h : b = 0#32
  · have e15 : aOp 15 a b = BitVec.allOnes 32 := by show (if b = 0#32 then _ else _) = _; rw [if_pos h]
    have e14 : aOp 14 a b = BitVec.allOnes 32 := by show (if b = 0#32 then _ else _) = _; rw [if_pos h]
    have e16 : aOp 16 a b = a := by show (if b = 0#32 then _ else _) = _; rw [if_pos h]
    have e17 : aOp 17 a b = a := by show (if b = 0#32 then _ else _) = _; rw [if_pos h]
    rw [e15, show U (BitVec.allOnes 32) = 4294967295 from rfl] at H43
    rw [e14, show U (BitVec.allOnes 32) = 4294967295 from rfl] at H42
    rw [e17] at H45
    rw [e16] at H44
    have hz : (U b == 0) = true := by rw [h]; rfl
    clear h e14 e15 e16 e17
    go_enter Try.func5, Try.ntmps5
    go_wp2_with (first | (go_at_call 11; (with_reducible refine (HA.out _).mono ?_); rintro e w5 ⟨rfl, k, hq⟩; replace hq := hq.symm; subst hq) | (go_at_call 22; (with_reducible refine (H43.out _).mono ?_); rintro e w5 ⟨rfl, k, hq⟩; replace hq := hq.symm; subst hq) | (go_at_call 22; (with_reducible refine (H45.out _).mono ?_); rintro e w5 ⟨rfl, k, hq⟩; replace hq := hq.symm; subst hq) | (go_at_call 22; (with_reducible refine (H42.out _).mono ?_); rintro e w5 ⟨rfl, k, hq⟩; replace hq := hq.symm; subst hq) | (go_at_call 22; (with_reducible refine (H44.out _).mono ?_); rintro e w5 ⟨rfl, k, hq⟩; replace hq := hq.symm; subst hq))
    go_ret
    exact ⟨by simp, below_drewN (Below.refl _ w) _⟩
  · obtain ⟨f1, f2, f3, f4⟩ := div_facts a b h
    obtain ⟨g1, g2, g3⟩ := rest_facts a b h
    have bb := tI_b b
    have ba := tI_b a
    have hy : b.toInt ≠ 0 := fun e => h (BitVec.eq_of_toInt_eq (by rw [e]; rfl))
    have hz : (U b == 0) = false := by
      have : U b ≠ 0 := fun e => h (U_inj (by rw [e]; rfl))
      simpa using this
    have wa := wrap32_tI a
    have wb := wrap32_tI b
    have wt := wrap32_tI (aOp 16 a b)
    rw [f4] at wt
    have u17 := U_nonneg (aOp 17 a b)
    have q1 : (U (aOp 15 a b) * U b % 4294967296 + U (aOp 17 a b)) % 4294967296 = U a := by rw [U_mul, U_add, f1]
    have q3 : (U (aOp 14 a b) * U b % 4294967296 + U (aOp 16 a b)) % 4294967296 = U a := by rw [U_mul, U_add, f3]
    generalize aOp 15 a b = q at *
    generalize aOp 17 a b = r at *
    generalize aOp 14 a b = s at *
    generalize aOp 16 a b = t at *
    generalize a.toInt.tmod b.toInt = T at *
    generalize a.toInt = x at *
    generalize b.toInt = y at *
    have wT : IntKind.i64.wrap T = T := by rw [IntKind.wrap_i64]; omega
    have wY : IntKind.i64.wrap y = y := by rw [IntKind.wrap_i64]; omega
    have nT : wrap64 (-T) = -T := by unfold wrap64; omega
    have nY : wrap64 (-y) = -y := by unfold wrap64; omega
    clear f1 f3 f4 h
    by_cases hx : x < 0
    · have g4 := g2 hx
      by_cases hyy : y < 0
      · have d1 : 0 ≤ -T := by omega
        have d2 : -T < -y := by omega
        clear g1 g2 g3 g4 ba bb hy
        go_enter Try.func5, Try.ntmps5
        go_wp2_with (first | (go_at_call 11; (with_reducible refine (HA.out _).mono ?_); rintro e w5 ⟨rfl, k, hq⟩; replace hq := hq.symm; subst hq) | (go_at_call 22; (with_reducible refine (H43.out _).mono ?_); rintro e w5 ⟨rfl, k, hq⟩; replace hq := hq.symm; subst hq) | (go_at_call 22; (with_reducible refine (H45.out _).mono ?_); rintro e w5 ⟨rfl, k, hq⟩; replace hq := hq.symm; subst hq) | (go_at_call 22; (with_reducible refine (H42.out _).mono ?_); rintro e w5 ⟨rfl, k, hq⟩; replace hq := hq.symm; subst hq) | (go_at_call 22; (with_reducible refine (H44.out _).mono ?_); rintro e w5 ⟨rfl, k, hq⟩; replace hq := hq.symm; subst hq))
        go_ret
        exact ⟨by simp, below_drewN (Below.refl _ w) _⟩
      · have d1 : 0 ≤ -T := by omega
        have d2 : -T < y := by omega
        clear g1 g2 g3 g4 ba bb hy
        go_enter Try.func5, Try.ntmps5
        go_wp2_with (first | (go_at_call 11; (with_reducible refine (HA.out _).mono ?_); rintro e w5 ⟨rfl, k, hq⟩; replace hq := hq.symm; subst hq) | (go_at_call 22; (with_reducible refine (H43.out _).mono ?_); rintro e w5 ⟨rfl, k, hq⟩; replace hq := hq.symm; subst hq) | (go_at_call 22; (with_reducible refine (H45.out _).mono ?_); rintro e w5 ⟨rfl, k, hq⟩; replace hq := hq.symm; subst hq) | (go_at_call 22; (with_reducible refine (H42.out _).mono ?_); rintro e w5 ⟨rfl, k, hq⟩; replace hq := hq.symm; subst hq) | (go_at_call 22; (with_reducible refine (H44.out _).mono ?_); rintro e w5 ⟨rfl, k, hq⟩; replace hq := hq.symm; subst hq))
        go_ret
        exact ⟨by simp, below_drewN (Below.refl _ w) _⟩
    · have g4 := g1 (by omega)
      by_cases hyy : y < 0
      · have d1 : 0 ≤ T := by omega
        have d2 : T < -y := by omega
        clear g1 g2 g3 g4 ba bb hy
        go_enter Try.func5, Try.ntmps5
        go_wp2_with (first | (go_at_call 11; (with_reducible refine (HA.out _).mono ?_); rintro e w5 ⟨rfl, k, hq⟩; replace hq := hq.symm; subst hq) | (go_at_call 22; (with_reducible refine (H43.out _).mono ?_); rintro e w5 ⟨rfl, k, hq⟩; replace hq := hq.symm; subst hq) | (go_at_call 22; (with_reducible refine (H45.out _).mono ?_); rintro e w5 ⟨rfl, k, hq⟩; replace hq := hq.symm; subst hq) | (go_at_call 22; (with_reducible refine (H42.out _).mono ?_); rintro e w5 ⟨rfl, k, hq⟩; replace hq := hq.symm; subst hq) | (go_at_call 22; (with_reducible refine (H44.out _).mono ?_); rintro e w5 ⟨rfl, k, hq⟩; replace hq := hq.symm; subst hq))
        go_ret
        exact ⟨by simp, below_drewN (Below.refl _ w) _⟩
      · have d1 : 0 ≤ T := by omega
        have d2 : T < y := by omega
        clear g1 g2 g3 g4 ba bb hy
        go_enter Try.func5, Try.ntmps5
        go_wp2_with (first | (go_at_call 11; (with_reducible refine (HA.out _).mono ?_); rintro e w5 ⟨rfl, k, hq⟩; replace hq := hq.symm; subst hq) | (go_at_call 22; (with_reducible refine (H43.out _).mono ?_); rintro e w5 ⟨rfl, k, hq⟩; replace hq := hq.symm; subst hq) | (go_at_call 22; (with_reducible refine (H45.out _).mono ?_); rintro e w5 ⟨rfl, k, hq⟩; replace hq := hq.symm; subst hq) | (go_at_call 22; (with_reducible refine (H42.out _).mono ?_); rintro e w5 ⟨rfl, k, hq⟩; replace hq := hq.symm; subst hq) | (go_at_call 22; (with_reducible refine (H44.out _).mono ?_); rintro e w5 ⟨rfl, k, hq⟩; replace hq := hq.symm; subst hq))
        go_ret
        exact ⟨by simp, below_drewN (Below.refl _ w) _⟩
end Go.Proofs.Ytffmbpenhgbhnaa
