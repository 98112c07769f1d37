/- Contracts of the document's own answers for layer bits: each returns the same word as the function of package bits that it answers for, and leaves memory alone. -/
import Derived.Test.YtffmbpenhgbhnaaBitsMem
import Derived.Test.YtffmbpenhgbhnaaBitsRefMath
namespace Go.Proofs.Ytffmbpenhgbhnaa
open Go.RowKit Bm

theorem power_any (n : Int) (w : World) (h0 : 0 ≤ n) (h1 : n ≤ 31) :
    Calls Try.prog 92 #[.int .i64 n] w fun e w' => e = .returned (.int .u32 (pw n)) ∧ w' = w := by
  go_enter Try.func92, Try.ntmps92
  go_wp2
  go_loop [3, 4] (fun p i => ∃ k : Nat, (k : Int) ≤ n ∧ i = .int .i64 k ∧ p = .int .u32 (pw k)) (fun _ i => 32 - (intOf i).toNat)
  case atStart => exact ⟨0, by omega, rfl, rfl⟩
  case round =>
    obtain ⟨k, hk, rfl, rfl⟩ := hrel
    have p0 := pw_pos k
    by_cases hlt : (k : Int) < n
    · have p1 := pw_le (k + 1) (by omega)
      have e := pw_succ k
      rw [e] at p1
      have E := Lib.hid e
      clear e
      go_wp2
      go_round
      case rel => exact ⟨k + 1, by omega, by go_num, by rw [show ((k + 1 : Nat) : Int) = (k : Int) + 1 by omega, E.out]⟩
      case measure => simp [intOf]; omega
    · have e : (k : Int) = n := by omega
      go_wp2
      go_ret
      exact ⟨rfl, rfl⟩

theorem bit_any (x : BitVec 32) (n : Int) (w : World) :
    Calls Try.prog 66 #[.int .u32 (U x), .int .i64 n] w fun e w' => e = .returned (.int .u32 (bitI x n)) ∧ w' = w := by
  by_cases h0 : n < 0
  · go_enter Try.func66, Try.ntmps66
    go_wp2
    go_ret
    refine ⟨ret_u ?_, rfl⟩
    unfold bitI; rw [gb_out (by omega)]; rfl
  · by_cases h1 : 31 < n
    · go_enter Try.func66, Try.ntmps66
      go_wp2
      go_ret
      refine ⟨ret_u ?_, rfl⟩
      unfold bitI; rw [gb_out (by omega)]; rfl
    · have p0 := pw_pos n
      have u0 := U_nonneg x
      have u1 := U_lt x
      go_enter Try.func66, Try.ntmps66
      go_wp2_with (go_at_call 92; with_reducible refine (power_any _ _ (by omega) (by omega)).mono ?_; rintro e w' ⟨rfl, rfl⟩)
      go_ret
      refine ⟨ret_u ?_, rfl⟩
      exact bit_quo x n (by omega)

theorem set_any (x y : BitVec 32) (n j : Int) (w : World) :
    Calls Try.prog 65 #[.int .u32 (U x), .int .i64 n, .int .u32 (bitI y j)] w fun e w' => e = .returned (.int .u32 (U (setB x n (gb y j)))) ∧ w' = w := by
  by_cases h0 : n < 0
  · go_enter Try.func65, Try.ntmps65
    go_wp2
    go_ret
    refine ⟨ret_u ?_, rfl⟩
    unfold setB; rw [if_pos (by omega)]
  · by_cases h1 : 31 < n
    · go_enter Try.func65, Try.ntmps65
      go_wp2
      go_ret
      refine ⟨ret_u ?_, rfl⟩
      unfold setB; rw [if_pos (by omega)]
    · go_enter Try.func65, Try.ntmps65
      go_wp2_with (first
        | (go_at_call 92; with_reducible refine (power_any _ _ (by omega) (by omega)).mono ?_; rintro e w' ⟨rfl, rfl⟩)
        | (go_at_call 66; with_reducible refine (bit_any _ _ _).mono ?_; rintro e w' ⟨rfl, rfl⟩))
      go_ret
      refine ⟨ret_u ?_, rfl⟩
      rw [← set_sum x y n j (by omega) (by omega)]
      generalize bitI x n * pw n = a
      generalize bitI y j * pw n = b
      omega



theorem rsign_any (x : BitVec 32) (n : Int) (w : World) :
    Calls Try.prog 37 #[.int .u32 (U x), .int .i64 n] w fun e w' => e = .returned (.int .u32 (U (signB x n))) ∧ w' = w := by
  by_cases h0 : n < 1
  · go_enter Try.func37, Try.ntmps37
    go_wp2
    go_ret
    refine ⟨ret_u ?_, rfl⟩
    unfold signB; rw [if_pos (by omega)]
  · by_cases h1 : 31 < n
    · go_enter Try.func37, Try.ntmps37
      go_wp2
      go_ret
      refine ⟨ret_u ?_, rfl⟩
      unfold signB; rw [if_pos (by omega)]
    · go_enter Try.func37, Try.ntmps37
      go_wp2
      go_loop [0, 5] (fun r i => ∃ k : Nat, n ≤ k ∧ k ≤ 32 ∧ i = .int .i64 k ∧ r = .int .u32 (U (signP x n k))) (fun _ i => 32 - (intOf i).toNat)
      case atStart => exact ⟨n.toNat, by omega, by omega, by rw [show ((n.toNat : Nat) : Int) = n by omega], by rw [show ((n.toNat : Nat) : Int) = n by omega, signP_start _ _ (by omega) (by omega)]⟩
      case round =>
        obtain ⟨k, hk, hk2, rfl, rfl⟩ := hrel
        by_cases hlt2 : (k : Int) < 32
        · have E := Lib.hid (signP_step x n k (by omega) (by omega) hk)
          go_wp2_with (first
            | (go_at_call 66; with_reducible refine (bit_any _ _ _).mono ?_; rintro e w' ⟨rfl, rfl⟩)
            | (go_at_call 65; with_reducible refine (set_any _ _ _ _ _).mono ?_; rintro e w' ⟨rfl, rfl⟩))
          go_round
          case rel => exact ⟨k + 1, by omega, by omega, by go_num, by rw [show ((k + 1 : Nat) : Int) = (k : Int) + 1 by omega, E.out]⟩
          case measure => simp [intOf]; omega
        · go_wp2
          go_ret
          exact ⟨ret_u (by rw [show (k : Int) = 32 by omega, signP_end _ _ (by omega) (by omega)]), rfl⟩


theorem tmod_mod (a : Int) : (wrap64 (a.tmod 32 + 32)).tmod 32 = a % 32 := by
  have h1 : a.tmod 32 = if 0 ≤ a then a % 32 else -((-a) % 32) := by
    split
    · exact Int.tmod_eq_emod_of_nonneg (by omega)
    · have := Int.neg_tmod (a := -a) (b := 32)
      rw [Int.neg_neg] at this
      rw [this, Int.tmod_eq_emod_of_nonneg (by omega)]
  have h2 : wrap64 (a.tmod 32 + 32) = a.tmod 32 + 32 := by unfold wrap64; split at h1 <;> omega
  rw [h2, Int.tmod_eq_emod_of_nonneg (by split at h1 <;> omega)]
  split at h1 <;> omega


end Go.Proofs.Ytffmbpenhgbhnaa
