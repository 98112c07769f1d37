/- AluProducts: both halves of a product are it. -/
import Derived.Test.YtffmbpenhgbhnaaAluV
namespace Go.Proofs.Ytffmbpenhgbhnaa
open Go.RowKit Bm

namespace Bm
/-- The high half h and the low one l, side by side. -/
theorem or_half (h l : BitVec 32) : bits .or .u64 (U h * 4294967296) (U l) = U h * 4294967296 + U l := by
  have h0 := U_nonneg h
  have h1 := U_lt h
  have l0 := U_nonneg l
  have l1 := U_lt l
  rw [u64_or _ _ (by omega) (by omega) (by omega) (by omega)]
  unfold U
  rw [show ((h.toNat : Int) * 4294967296).toNat = 2 ^ 32 * h.toNat by omega, Int.toNat_natCast, ← Nat.two_pow_add_eq_or_of_lt l.isLt]
  omega
theorem low_mul (a b : BitVec 32) : U (aOp 10 a b) = U a * U b % 4294967296 := by show U (a * b) = _; rw [U_mul]
theorem prod_u (a b : BitVec 32) : U (aOp 13 a b) * 4294967296 + U (aOp 10 a b) = U a * U b := by
  rw [low_mul]
  show U (uwA (U a * U b / 4294967296)) * 4294967296 + _ = _
  have h := prod_b a b
  rw [U_uwA]
  generalize U a * U b = p at *
  omega
theorem tI_mod (x : BitVec 32) : ∃ k, x.toInt = U x + 4294967296 * k := by
  have h := tI_U x
  split at h
  · exact ⟨0, by omega⟩
  · exact ⟨-1, by omega⟩
theorem prod_s (a b : BitVec 32) : (U (aOp 11 a b) * 4294967296 + U (aOp 10 a b)) % 18446744073709551616 = a.toInt * b.toInt % 18446744073709551616 := by
  rw [low_mul, show U (aOp 11 a b) = U (uwA (a.toInt * b.toInt / 4294967296)) from rfl, U_uwA]
  have e : U a * U b % 4294967296 = a.toInt * b.toInt % 4294967296 := by
    rw [U_tI a, U_tI b, ← Int.mul_emod]
  rw [e]
  generalize a.toInt * b.toInt = p at *
  omega
theorem prod_su (a b : BitVec 32) : (U (aOp 12 a b) * 4294967296 + U (aOp 10 a b)) % 18446744073709551616 = a.toInt * U b % 18446744073709551616 := by
  rw [low_mul, show U (aOp 12 a b) = U (uwA (a.toInt * U b / 4294967296)) from rfl, U_uwA]
  have e : U a * U b % 4294967296 = a.toInt * U b % 4294967296 := by
    rw [U_tI a, Int.mul_emod, Int.emod_emod_of_dvd _ (Int.dvd_refl _), ← Int.mul_emod]
  rw [e]
  generalize a.toInt * U b = p at *
  omega
end Bm
set_option maxHeartbeats 4000000 in
theorem aluProducts_walk (a0 : Int) (b0 : (Lit.int .u32 a0).wf = true) (a1 : Int) (b1 : (Lit.int .u32 a1).wf = true) (w : World) :
    Calls Try.prog 6 #[.int .u32 a0, .int .u32 a1] w fun e w' => e = .returned (.bool true) ∧ Below w.heap.size w w' := by
  have be := bounds_u32 b0
  have bf := bounds_u32 b1
  obtain ⟨a, rfl⟩ := U_of be.1 (by omega)
  obtain ⟨b, rfl⟩ := U_of bf.1 (by omega)
  have HA := Lib.hid alive12_any
  have H38 := Lib.hid (fun W => do12_any 38 a b (aOp 10 a b) rfl W)
  have H41 := Lib.hid (fun W => do12_any 41 a b (aOp 13 a b) rfl W)
  have H39 := Lib.hid (fun W => do12_any 39 a b (aOp 11 a b) rfl W)
  have H40 := Lib.hid (fun W => do12_any 40 a b (aOp 12 a b) rfl W)
  clear b0 b1 be bf
  have p1 := prod_u a b
  have p2 := prod_s a b
  have p3 := prod_su a b
  have pb := prod_b a b
  have wa := wrap32_tI a
  have wb := wrap32_tI b
  have ta := tI_b a
  have tb := tI_b b
  have w64u : ∀ x : BitVec 32, IntKind.u64.wrap (U x) = U x := fun x => by
    have := U_nonneg x
    have := U_lt x
    rw [IntKind.wrap_u64]; omega
  have w64i : IntKind.i64.wrap (U b) = U b := by
    have := U_nonneg b
    have := U_lt b
    rw [IntKind.wrap_i64]; omega
  have w64s : ∀ x : BitVec 32, IntKind.u64.wrap (U x * 4294967296) = U x * 4294967296 := fun x => by
    have := U_nonneg x
    have := U_lt x
    rw [IntKind.wrap_u64]; omega
  have o1 := or_half (aOp 13 a b) (aOp 10 a b)
  have o2 := or_half (aOp 11 a b) (aOp 10 a b)
  have o3 := or_half (aOp 12 a b) (aOp 10 a b)
  have x1 := w64u a
  have x2 := w64u b
  have x3 := w64u (aOp 10 a b)
  have x4 := w64u (aOp 13 a b)
  have x5 := w64u (aOp 11 a b)
  have x6 := w64u (aOp 12 a b)
  have y1 := w64s (aOp 13 a b)
  have y2 := w64s (aOp 11 a b)
  have y3 := w64s (aOp 12 a b)
  have z1 : IntKind.u64.wrap (U a * U b) = U a * U b := by rw [IntKind.wrap_u64]; omega
  have z2 : IntKind.i64.wrap (U (aOp 11 a b) * 4294967296 + U (aOp 10 a b)) = wrap64 (a.toInt * b.toInt) := by rw [IntKind.wrap_i64]; unfold wrap64; omega
  have z3 : IntKind.i64.wrap (U (aOp 12 a b) * 4294967296 + U (aOp 10 a b)) = wrap64 (a.toInt * U b) := by rw [IntKind.wrap_i64]; unfold wrap64; omega
  rw [p1] at o1
  generalize U (aOp 11 a b) * 4294967296 + U (aOp 10 a b) = M at *
  generalize U (aOp 12 a b) * 4294967296 + U (aOp 10 a b) = N at *
  generalize aOp 10 a b = l at *
  generalize aOp 13 a b = h at *
  generalize aOp 11 a b = m at *
  generalize aOp 12 a b = n at *
  have i1 : IntKind.i64.wrap a.toInt = a.toInt := by rw [IntKind.wrap_i64]; omega
  have i2 : IntKind.i64.wrap b.toInt = b.toInt := by rw [IntKind.wrap_i64]; omega
  generalize a.toInt = x at *
  generalize b.toInt = y at *
  clear p1 p2 p3 pb ta tb w64u w64s
  go_enter Try.func6, Try.ntmps6
  go_wp2_with (first | (go_at_call 11; (with_reducible refine (HA.out _).mono ?_); rintro e w5 ⟨rfl, k, hq⟩; replace hq := hq.symm; subst hq) | (go_at_call 22; (with_reducible refine (H38.out _).mono ?_); rintro e w5 ⟨rfl, k, hq⟩; replace hq := hq.symm; subst hq) | (go_at_call 22; (with_reducible refine (H41.out _).mono ?_); rintro e w5 ⟨rfl, k, hq⟩; replace hq := hq.symm; subst hq) | (go_at_call 22; (with_reducible refine (H39.out _).mono ?_); rintro e w5 ⟨rfl, k, hq⟩; replace hq := hq.symm; subst hq) | (go_at_call 22; (with_reducible refine (H40.out _).mono ?_); rintro e w5 ⟨rfl, k, hq⟩; replace hq := hq.symm; subst hq))
  go_ret
  exact ⟨by simp, below_drewN (Below.refl _ w) _⟩
end Go.Proofs.Ytffmbpenhgbhnaa
