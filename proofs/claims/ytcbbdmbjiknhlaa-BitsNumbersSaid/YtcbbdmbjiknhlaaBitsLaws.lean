/- The walks of layer bits' statements over integers: each statement's function returns true, whatever it is given. -/
import Derived.Test.YtcbbdmbjiknhlaaBitsAlive
import Derived.Test.YtcbbdmbjiknhlaaBitsLawMath
import Derived.OpenShut
namespace Go.Proofs.Ytcbbdmbjiknhlaa
open Go.RowKit Bm

theorem grown_drewN (w : World) (n : Nat) : Grown w (w.drewN n) := by
  have h : ∀ n, Grown w (w.drewN n) := by
    intro n
    induction n with
    | zero => exact Grown.refl _
    | succ n ih => exact ih.drew
  exact h n

theorem field_ones (a n : Int) (w : World) (h3 : -9223372036854775808 ≤ a) (h4 : a ≤ 9223372036854775807) :
    Calls Try.prog 11 #[.int .u32 4294967295, .int .i64 a, .int .i64 n] w fun e w' => e = .returned (.int .u32 (U (fieldB (BitVec.allOnes 32) a n))) ∧ w' = w :=
  field_any (BitVec.allOnes 32) a n w h3 h4
theorem put_zero (a n : Int) (v : BitVec 32) (w : World) (h3 : -9223372036854775808 ≤ a) (h4 : a ≤ 9223372036854775807) :
    Calls Try.prog 13 #[.int .u32 0, .int .i64 a, .int .i64 n, .int .u32 (U v)] w fun e w' => e = .returned (.int .u32 (U (putB 0#32 a n v))) ∧ w' = w :=
  put_any 0#32 a n v w h3 h4

theorem bitsBack_walk (a0 : Int) (a1 : Int) (a2 : Int) (w0 : (Lit.int .u32 a0).wf = true) (w1 : (Lit.int .u8 a1).wf = true) (w2 : (Lit.int .u8 a2).wf = true) (w : World) :
    Calls Try.prog 5 #[.int .u32 a0, .int .u8 a1, .int .u8 a2] w fun e w' => e = .returned (.bool true) ∧ Grown w w' := by
  have b0 := bounds_u32 w0
  have b1 := bounds_u8 w1
  have b2 := bounds_u8 w2
  obtain ⟨x, rfl⟩ := U_of b0.1 (by omega)
  clear w0 w1 w2 b0
  obtain ⟨a, ha⟩ : ∃ a, a1 % 32 = a := ⟨_, rfl⟩
  obtain ⟨n, hn⟩ : ∃ n, a2 % 33 = n := ⟨_, rfl⟩
  have p1 : 0 ≤ a := by omega
  have p2 : a < 32 := by omega
  have p3 : 0 ≤ n := by omega
  have p4 : n < 33 := by omega
  have e1 := back1 x a n p1 p2
  have e2 := back2 x (~~~fieldB x a n) a n
  have e3 := back3 x (~~~fieldB x a n) a n
  have e4 := back4 x (~~~fieldB x a n) a n
  go_enter Try.func5, Try.ntmps5
  go_wp2_with (first
    | (go_at_call 10; refine (alive_any _).mono ?_; rintro e w' ⟨rfl, n, rfl⟩)
    | (go_at_call 11; with_reducible refine (field_any _ _ _ _ (by omega) (by omega)).mono ?_; rintro e w' ⟨rfl, rfl⟩)
    | (go_at_call 11; with_reducible refine (field_ones _ _ _ (by omega) (by omega)).mono ?_; rintro e w' ⟨rfl, rfl⟩)
    | (go_at_call 13; with_reducible refine (put_any _ _ _ _ _ (by omega) (by omega)).mono ?_; rintro e w' ⟨rfl, rfl⟩))
  go_ret
  exact ⟨rfl, grown_drewN _ _⟩

theorem bitsParts_walk (a0 : Int) (a1 : Int) (w0 : (Lit.int .u32 a0).wf = true) (w1 : (Lit.int .u8 a1).wf = true) (w : World) :
    Calls Try.prog 8 #[.int .u32 a0, .int .u8 a1] w fun e w' => e = .returned (.bool true) ∧ Grown w w' := by
  have b0 := bounds_u32 w0
  have b1 := bounds_u8 w1
  obtain ⟨x, rfl⟩ := U_of b0.1 (by omega)
  clear w0 w1 b0
  obtain ⟨k, hk⟩ : ∃ k, a1 % 33 = k := ⟨_, rfl⟩
  have p1 : 0 ≤ k := by omega
  have p2 : k < 33 := by omega
  have e1 := parts1 x k p1 p2
  have e2 := parts2 x k
  go_enter Try.func8, Try.ntmps8
  go_wp2_with (first
    | (go_at_call 10; refine (alive_any _).mono ?_; rintro e w' ⟨rfl, n, rfl⟩)
    | (go_at_call 11; with_reducible refine (field_any _ _ _ _ (by omega) (by omega)).mono ?_; rintro e w' ⟨rfl, rfl⟩)
    | (go_at_call 13; with_reducible refine (put_any _ _ _ _ _ (by omega) (by omega)).mono ?_; rintro e w' ⟨rfl, rfl⟩)
    | (go_at_call 13; with_reducible refine (put_zero _ _ _ _ (by omega) (by omega)).mono ?_; rintro e w' ⟨rfl, rfl⟩))
  go_ret
  exact ⟨rfl, grown_drewN _ _⟩

theorem w32_int (y : BitVec 32) : wrap32 (U y) = y.toInt := by
  have := y.isLt
  unfold wrap32 U
  rw [BitVec.toInt_eq_toNat_cond]
  split <;> omega
theorem numbers_facts (x : BitVec 32) (k : Int) (p1 : 1 ≤ k) (p2 : k < 32) :
    wrap64 (-wrap64 (2 ^ (k.toNat - 1))) ≤ wrap64 (wrap32 (U (signB x k))) ∧ wrap64 (wrap32 (U (signB x k))) < wrap64 (2 ^ (k.toNat - 1)) ∧ wrap64 (wrap32 (U (signB x k))) % 4294967296 = U (signB x k) := by
  obtain ⟨n, rfl⟩ : ∃ n : Nat, k = n := ⟨k.toNat, by omega⟩
  have h := sign_ends x n (by omega) (by omega)
  rw [w32_int, Int.toNat_natCast]
  have lo := BitVec.le_toInt (signB x n)
  have hi := @BitVec.toInt_lt 32 (signB x n)
  have q : wrap64 (2 ^ (n - 1)) = 2 ^ (n - 1) ∧ wrap64 (-2 ^ (n - 1)) = - 2 ^ (n - 1) := by
    have a : (2 : Int) ^ (n - 1) ≤ 2 ^ 31 := by exact_mod_cast Nat.pow_le_pow_right (n := 2) (by decide) (show n - 1 ≤ 31 by omega)
    have b : (0 : Int) < 2 ^ (n - 1) := Int.pow_pos (by decide)
    unfold wrap64; omega
  have e : wrap64 (signB x n).toInt = (signB x n).toInt := by unfold wrap64; omega
  rw [q.1, q.2, e]
  refine ⟨h.1, h.2, ?_⟩
  have := (signB x n).isLt
  unfold U
  rw [BitVec.toInt_eq_toNat_cond]
  split <;> omega
theorem bitsNumbers_walk (a0 : Int) (a1 : Int) (w0 : (Lit.int .u32 a0).wf = true) (w1 : (Lit.int .u8 a1).wf = true) (w : World) :
    Calls Try.prog 9 #[.int .u32 a0, .int .u8 a1] w fun e w' => e = .returned (.bool true) ∧ Grown w w' := by
  have b0 := bounds_u32 w0
  have b1 := bounds_u8 w1
  obtain ⟨x, rfl⟩ := U_of b0.1 (by omega)
  clear w0 w1 b0
  obtain ⟨k, hk⟩ : ∃ k, 1 + a1 % 31 = k := ⟨_, rfl⟩
  have p1 : 1 ≤ k := by omega
  have p2 : k < 32 := by omega
  obtain ⟨f1, f2, f3⟩ := numbers_facts x k p1 p2
  have e1 := sign_low x k p1 p2
  go_enter Try.func9, Try.ntmps9
  go_wp2_with (first
    | (go_at_call 10; refine (alive_any _).mono ?_; rintro e w' ⟨rfl, n, rfl⟩)
    | (go_at_call 15; with_reducible refine (sign_any _ _ _ (by omega) (by omega)).mono ?_; rintro e w' ⟨rfl, rfl⟩)
    | (go_at_call 11; with_reducible refine (field_any _ _ _ _ (by omega) (by omega)).mono ?_; rintro e w' ⟨rfl, rfl⟩))
  go_ret
  exact ⟨rfl, grown_drewN _ _⟩


theorem bitsTurns_walk (a0 : Int) (a1 : Int) (a2 : Int) (w0 : (Lit.int .u32 a0).wf = true) (w1 : (Lit.int .i8 a1).wf = true) (w2 : (Lit.int .i8 a2).wf = true) (w : World) :
    Calls Try.prog 7 #[.int .u32 a0, .int .i8 a1, .int .i8 a2] w fun e w' => e = .returned (.bool true) ∧ Grown w w' := by
  have b0 := bounds_u32 w0
  have b1 := bounds_i8 w1
  have b2 := bounds_i8 w2
  obtain ⟨x, rfl⟩ := U_of b0.1 (by omega)
  clear w0 w1 w2 b0
  obtain ⟨hd1, hd2⟩ := b1
  obtain ⟨hd3, hd4⟩ := b2
  go_enter Try.func7, Try.ntmps7
  go_wp2_with (first
    | (go_at_call 10; refine (alive_any _).mono ?_; rintro e w' ⟨rfl, n, rfl⟩)
    | (go_at_call 19; with_reducible refine (turn_any _ _ _).mono ?_; rintro e w' ⟨rfl, n, rfl⟩)
    )
  go_loop [7, 8, 17] (fun n m i => ∃ k : Nat, k ≤ 32 ∧ i = .int .i64 k ∧ n = .int .i64 (cnt x k) ∧ m = .int .i64 (cnt (turnB x a1) k)) (fun _ _ i => 32 - (intOf i).toNat)
  case atStart => exact ⟨0, by omega, rfl, rfl, rfl⟩
  case round =>
    obtain ⟨k, hk, rfl, rfl, rfl⟩ := hrel
    have c1 := cnt_bd x k
    have c2 := cnt_bd (turnB x a1) k
    have s1 := bitI_le x k
    have s2 := bitI_nonneg x k
    have s3 := bitI_le (turnB x a1) k
    have s4 := bitI_nonneg (turnB x a1) k
    have g1 := bit_and1 x k
    have g2 := bit_and1 (turnB x a1) k
    by_cases hlt : k < 32
    · go_wp2
      go_round
      case rel => exact ⟨k + 1, by omega, by go_num, by rw [cnt_succ], by rw [cnt_succ]⟩
      case measure => simp [intOf]; omega
    · have hk2 : k = 32 := by omega
      subst hk2
      have e1 := turn_turn x a1 a2
      have e2 := turn_full x
      have e3 := turn_back x a1
      have e4 := cnt_turn x a1
      clear g1 g2
      go_wp2_with (go_at_call 19; with_reducible refine (turn_any _ _ _).mono ?_; rintro e w' ⟨rfl, n, rfl⟩)
      go_ret
      exact ⟨rfl, grown_drewN _ _⟩
end Go.Proofs.Ytcbbdmbjiknhlaa
