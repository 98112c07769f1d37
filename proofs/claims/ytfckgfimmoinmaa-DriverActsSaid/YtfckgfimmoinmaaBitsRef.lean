/- Contracts of the document's own answers for layer bits: each returns the same word as the function of package bits that it answers for, and leaves memory alone. -/
import Derived.Test.YtfckgfimmoinmaaBits
import Derived.Test.YtfckgfimmoinmaaBitsRefMath
namespace Go.Proofs.Ytfckgfimmoinmaa
open Go.RowKit Bm

theorem power_any (n : Int) (w : World) (h0 : 0 ≤ n) (h1 : n ≤ 31) :
    Calls Try.prog 101 #[.int .i64 n] w fun e w' => e = .returned (.int .u32 (pw n)) ∧ w' = w := by
  go_enter Try.func101, Try.ntmps101
  go_wp2
  go_loop [3, 4] (fun p i => ∃ k : Nat, (k : Int) ≤ n ∧ i = .int .i64 k ∧ p = .int .u32 (pw k)) (fun _ i => 32 - (intOf i).toNat)
  case atStart => exact ⟨0, by omega, rfl, rfl⟩
  case round =>
    obtain ⟨k, hk, rfl, rfl⟩ := hrel
    have p0 := pw_pos k
    by_cases hlt : (k : Int) < n
    · have p1 := pw_le (k + 1) (by omega)
      have e := pw_succ k
      rw [e] at p1
      have E := Lib.hid e
      clear e
      go_wp2
      go_round
      case rel => exact ⟨k + 1, by omega, by go_num, by rw [show ((k + 1 : Nat) : Int) = (k : Int) + 1 by omega, E.out]⟩
      case measure => simp [intOf]; omega
    · have e : (k : Int) = n := by omega
      go_wp2
      go_ret
      exact ⟨rfl, rfl⟩

theorem bit_any (x : BitVec 32) (n : Int) (w : World) :
    Calls Try.prog 97 #[.int .u32 (U x), .int .i64 n] w fun e w' => e = .returned (.int .u32 (bitI x n)) ∧ w' = w := by
  by_cases h0 : n < 0
  · go_enter Try.func97, Try.ntmps97
    go_wp2
    go_ret
    refine ⟨ret_u ?_, rfl⟩
    unfold bitI; rw [gb_out (by omega)]; rfl
  · by_cases h1 : 31 < n
    · go_enter Try.func97, Try.ntmps97
      go_wp2
      go_ret
      refine ⟨ret_u ?_, rfl⟩
      unfold bitI; rw [gb_out (by omega)]; rfl
    · have p0 := pw_pos n
      have u0 := U_nonneg x
      have u1 := U_lt x
      go_enter Try.func97, Try.ntmps97
      go_wp2_with (go_at_call 101; with_reducible refine (power_any _ _ (by omega) (by omega)).mono ?_; rintro e w' ⟨rfl, rfl⟩)
      go_ret
      refine ⟨ret_u ?_, rfl⟩
      exact bit_quo x n (by omega)

theorem set_any (x y : BitVec 32) (n j : Int) (w : World) :
    Calls Try.prog 96 #[.int .u32 (U x), .int .i64 n, .int .u32 (bitI y j)] w fun e w' => e = .returned (.int .u32 (U (setB x n (gb y j)))) ∧ w' = w := by
  by_cases h0 : n < 0
  · go_enter Try.func96, Try.ntmps96
    go_wp2
    go_ret
    refine ⟨ret_u ?_, rfl⟩
    unfold setB; rw [if_pos (by omega)]
  · by_cases h1 : 31 < n
    · go_enter Try.func96, Try.ntmps96
      go_wp2
      go_ret
      refine ⟨ret_u ?_, rfl⟩
      unfold setB; rw [if_pos (by omega)]
    · go_enter Try.func96, Try.ntmps96
      go_wp2_with (first
        | (go_at_call 101; with_reducible refine (power_any _ _ (by omega) (by omega)).mono ?_; rintro e w' ⟨rfl, rfl⟩)
        | (go_at_call 97; with_reducible refine (bit_any _ _ _).mono ?_; rintro e w' ⟨rfl, rfl⟩))
      go_ret
      refine ⟨ret_u ?_, rfl⟩
      rw [← set_sum x y n j (by omega) (by omega)]
      generalize bitI x n * pw n = a
      generalize bitI y j * pw n = b
      omega

theorem rfield_any (x : BitVec 32) (a n : Int) (w : World) (h3 : -9223372036854775808 ≤ a) (h4 : a ≤ 9223372036854775807) :
    Calls Try.prog 87 #[.int .u32 (U x), .int .i64 a, .int .i64 n] w fun e w' => e = .returned (.int .u32 (U (fieldB x a n))) ∧ w' = w := by
  go_enter Try.func87, Try.ntmps87
  go_wp2
  go_loop [7, 8] (fun r i => ∃ k : Nat, k ≤ 32 ∧ ((k : Int) ≤ n ∨ k = 0) ∧ i = .int .i64 k ∧ r = .int .u32 (U (fieldB x a k))) (fun _ i => 32 - (intOf i).toNat)
  case atStart => exact ⟨0, by omega, by omega, rfl, by rw [show ((0 : Nat) : Int) = 0 from rfl, field_zero]; rfl⟩
  case round =>
    obtain ⟨k, hk, hk2, rfl, rfl⟩ := hrel
    by_cases hlt : (k : Int) < n
    · by_cases hlt2 : (k : Int) < 32
      · by_cases ha : a < 32
        · have E := Lib.hid (field_step x a k (by omega))
          go_wp2_with (first
            | (go_at_call 97; with_reducible refine (bit_any _ _ _).mono ?_; rintro e w' ⟨rfl, rfl⟩)
            | (go_at_call 96; with_reducible refine (set_any _ _ _ _ _).mono ?_; rintro e w' ⟨rfl, rfl⟩))
          go_round
          case rel => exact ⟨k + 1, by omega, by omega, by go_num, by rw [show ((k + 1 : Nat) : Int) = (k : Int) + 1 by omega, E.out]⟩
          case measure => simp [intOf]; omega
        · go_wp2
          go_round
          case rel => exact ⟨k + 1, by omega, by omega, by go_num, by rw [field_far _ _ _ (by omega), field_far _ _ _ (by omega)]⟩
          case measure => simp [intOf]; omega
      · go_wp2
        go_ret
        exact ⟨ret_u (by rw [field_end x a n k (by omega) hk2]), rfl⟩
    · go_wp2
      go_ret
      exact ⟨ret_u (by rw [field_end x a n k (by omega) hk2]), rfl⟩

theorem rput_any (x : BitVec 32) (a n : Int) (v : BitVec 32) (w : World) (h3 : -9223372036854775808 ≤ a) (h4 : a ≤ 9223372036854775807) :
    Calls Try.prog 86 #[.int .u32 (U x), .int .i64 a, .int .i64 n, .int .u32 (U v)] w fun e w' => e = .returned (.int .u32 (U (putB x a n v))) ∧ w' = w := by
  go_enter Try.func86, Try.ntmps86
  go_wp2
  go_loop [0, 9] (fun r i => ∃ k : Nat, k ≤ 32 ∧ ((k : Int) ≤ n ∨ k = 0) ∧ i = .int .i64 k ∧ r = .int .u32 (U (putB x a k v))) (fun _ i => 32 - (intOf i).toNat)
  case atStart => exact ⟨0, by omega, by omega, rfl, by rw [show ((0 : Nat) : Int) = 0 from rfl, put_none]⟩
  case round =>
    obtain ⟨k, hk, hk2, rfl, rfl⟩ := hrel
    by_cases hlt : (k : Int) < n
    · by_cases hlt2 : (k : Int) < 32
      · by_cases ha : a < 32
        · have E := Lib.hid (put_step x a v k (by omega))
          go_wp2_with (first
            | (go_at_call 97; with_reducible refine (bit_any _ _ _).mono ?_; rintro e w' ⟨rfl, rfl⟩)
            | (go_at_call 96; with_reducible refine (set_any _ _ _ _ _).mono ?_; rintro e w' ⟨rfl, rfl⟩))
          go_round
          case rel => exact ⟨k + 1, by omega, by omega, by go_num, by rw [show ((k + 1 : Nat) : Int) = (k : Int) + 1 by omega, E.out]⟩
          case measure => simp [intOf]; omega
        · go_wp2
          go_round
          case rel => exact ⟨k + 1, by omega, by omega, by go_num, by rw [put_far _ _ _ _ (by omega), put_far _ _ _ _ (by omega)]⟩
          case measure => simp [intOf]; omega
      · go_wp2
        go_ret
        exact ⟨ret_u (by rw [put_end x a n v k (by omega) hk2]), rfl⟩
    · go_wp2
      go_ret
      exact ⟨ret_u (by rw [put_end x a n v k (by omega) hk2]), rfl⟩


theorem rpartial_any (f t p : BitVec 32) (w : World) :
    Calls Try.prog 94 #[.int .u32 (U f), .int .u32 (U t), .int .u32 (U p)] w fun e w' => e = .returned (.int .u32 (U (partB f t p))) ∧ w' = w := by
  go_enter Try.func94, Try.ntmps94
  go_wp2
  go_loop [0, 7] (fun r i => ∃ k : Nat, k ≤ 32 ∧ i = .int .i64 k ∧ r = .int .u32 (U (wayP f t p k))) (fun _ i => 32 - (intOf i).toNat)
  case atStart => exact ⟨0, by omega, rfl, by rw [show ((0 : Nat) : Int) = 0 from rfl, wayP_start]⟩
  case round =>
    obtain ⟨k, hk, rfl, rfl⟩ := hrel
    by_cases hlt2 : (k : Int) < 32
    · cases hb : gb p k
      · have E := Lib.hid (wayP_skip f t p k hb)
        have b : bitI p k = 0 := by unfold bitI; rw [hb]; rfl
        clear hb
        go_wp2_with (first
          | (go_at_call 97; with_reducible refine (bit_any _ _ _).mono ?_; rintro e w' ⟨rfl, rfl⟩)
          | (go_at_call 96; with_reducible refine (set_any _ _ _ _ _).mono ?_; rintro e w' ⟨rfl, rfl⟩))
        go_round
        case rel => exact ⟨k + 1, by omega, by go_num, by rw [show ((k + 1 : Nat) : Int) = (k : Int) + 1 by omega, E.out]⟩
        case measure => simp [intOf]; omega
      · have E := Lib.hid (wayP_step f t p k hb)
        have b : bitI p k = 1 := by unfold bitI; rw [hb]; rfl
        clear hb
        go_wp2_with (first
          | (go_at_call 97; with_reducible refine (bit_any _ _ _).mono ?_; rintro e w' ⟨rfl, rfl⟩)
          | (go_at_call 96; with_reducible refine (set_any _ _ _ _ _).mono ?_; rintro e w' ⟨rfl, rfl⟩))
        go_round
        case rel => exact ⟨k + 1, by omega, by go_num, by rw [show ((k + 1 : Nat) : Int) = (k : Int) + 1 by omega, E.out]⟩
        case measure => simp [intOf]; omega
    · go_wp2
      go_ret
      exact ⟨ret_u (by rw [show (k : Int) = 32 by omega, wayP_end]), rfl⟩

theorem tmod_mod (a : Int) : (wrap64 (a.tmod 32 + 32)).tmod 32 = a % 32 := by
  have h1 : a.tmod 32 = if 0 ≤ a then a % 32 else -((-a) % 32) := by
    split
    · exact Int.tmod_eq_emod_of_nonneg (by omega)
    · have := Int.neg_tmod (a := -a) (b := 32)
      rw [Int.neg_neg] at this
      rw [this, Int.tmod_eq_emod_of_nonneg (by omega)]
  have h2 : wrap64 (a.tmod 32 + 32) = a.tmod 32 + 32 := by unfold wrap64; split at h1 <;> omega
  rw [h2, Int.tmod_eq_emod_of_nonneg (by split at h1 <;> omega)]
  split at h1 <;> omega

theorem rturn_any (x : BitVec 32) (a : Int) (w : World) :
    Calls Try.prog 84 #[.int .u32 (U x), .int .i64 a] w fun e w' => e = .returned (.int .u32 (U (turnB x a))) ∧ w' = w := by
  obtain ⟨m, hm⟩ : ∃ m, m = a % 32 := ⟨_, rfl⟩
  have m0 : 0 ≤ m := by omega
  have m1 : m < 32 := by omega
  have M := Lib.hid hm
  have f : (wrap64 (a.tmod 32 + 32)).tmod 32 = m := by rw [hm]; exact tmod_mod a
  clear hm
  go_enter Try.func84, Try.ntmps84
  go_wp2
  clear f
  go_loop [5, 6] (fun r i => ∃ k : Nat, k ≤ 32 ∧ i = .int .i64 k ∧ r = .int .u32 (U (turnP x m k))) (fun _ i => 32 - (intOf i).toNat)
  case atStart => exact ⟨0, by omega, rfl, by rw [show ((0 : Nat) : Int) = 0 from rfl, turnP_start]; rfl⟩
  case round =>
    obtain ⟨k, hk, rfl, rfl⟩ := hrel
    by_cases hlt2 : (k : Int) < 32
    · have E := Lib.hid (turnP_step x m k (by omega))
      go_wp2_with (first
        | (go_at_call 97; with_reducible refine (bit_any _ _ _).mono ?_; rintro e w' ⟨rfl, rfl⟩)
        | (go_at_call 96; with_reducible refine (set_any _ _ _ _ _).mono ?_; rintro e w' ⟨rfl, rfl⟩))
      go_round
      case rel => exact ⟨k + 1, by omega, by go_num, by rw [show ((k + 1 : Nat) : Int) = (k : Int) + 1 by omega, ← E.out]⟩
      case measure => simp [intOf]; omega
    · go_wp2
      go_ret
      exact ⟨ret_u (by rw [show (k : Int) = 32 by omega, M.out, turnP_end]), rfl⟩

end Go.Proofs.Ytfckgfimmoinmaa
