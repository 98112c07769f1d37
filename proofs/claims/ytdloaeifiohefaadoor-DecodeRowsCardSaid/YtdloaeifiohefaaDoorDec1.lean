/- Layer decode's program: what has a name, and each name's format. -/
import Derived.Test.YtdloaeifiohefaaDoorDecMap
namespace Go.Proofs.YtdloaeifiohefaaDoor
open Go.RowKit Bm

theorem named_any (n : Int) (w : World) : Calls Tryd.prog 27 #[.int .i64 n] w fun e w' => e = .returned (.bool (named n)) ∧ w' = w := by
  by_cases h1 : 1 ≤ n
  · by_cases h2 : n ≤ 69
    · go_enter Tryd.func27, Tryd.ntmps27
      go_wp2
      go_ret
      exact ⟨by simp [named, h1, h2], rfl⟩
    · go_enter Tryd.func27, Tryd.ntmps27
      go_wp2
      go_ret
      exact ⟨by simp [named, h2], rfl⟩
  · go_enter Tryd.func27, Tryd.ntmps27
    go_wp2
    go_ret
    exact ⟨by simp [named]; omega, rfl⟩
theorem fm_1 (w : World) : Calls Tryd.prog 18 #[.int .i64 1] w fun e w' => e = .returned (.int .i64 0) ∧ w' = w := by
  go_enter Tryd.func18, Tryd.ntmps18
  go_wp2
  go_ret
  exact ⟨rfl, rfl⟩
theorem fm_2 (w : World) : Calls Tryd.prog 18 #[.int .i64 2] w fun e w' => e = .returned (.int .i64 0) ∧ w' = w := by
  go_enter Tryd.func18, Tryd.ntmps18
  go_wp2
  go_ret
  exact ⟨rfl, rfl⟩
theorem fm_3 (w : World) : Calls Tryd.prog 18 #[.int .i64 3] w fun e w' => e = .returned (.int .i64 1) ∧ w' = w := by
  go_enter Tryd.func18, Tryd.ntmps18
  go_wp2
  go_ret
  exact ⟨rfl, rfl⟩
theorem fm_4 (w : World) : Calls Tryd.prog 18 #[.int .i64 4] w fun e w' => e = .returned (.int .i64 2) ∧ w' = w := by
  go_enter Tryd.func18, Tryd.ntmps18
  go_wp2
  go_ret
  exact ⟨rfl, rfl⟩
theorem fm_5 (w : World) : Calls Tryd.prog 18 #[.int .i64 5] w fun e w' => e = .returned (.int .i64 3) ∧ w' = w := by
  go_enter Tryd.func18, Tryd.ntmps18
  go_wp2
  go_ret
  exact ⟨rfl, rfl⟩
theorem fm_6 (w : World) : Calls Tryd.prog 18 #[.int .i64 6] w fun e w' => e = .returned (.int .i64 3) ∧ w' = w := by
  go_enter Tryd.func18, Tryd.ntmps18
  go_wp2
  go_ret
  exact ⟨rfl, rfl⟩
theorem fm_7 (w : World) : Calls Tryd.prog 18 #[.int .i64 7] w fun e w' => e = .returned (.int .i64 3) ∧ w' = w := by
  go_enter Tryd.func18, Tryd.ntmps18
  go_wp2
  go_ret
  exact ⟨rfl, rfl⟩
theorem fm_8 (w : World) : Calls Tryd.prog 18 #[.int .i64 8] w fun e w' => e = .returned (.int .i64 3) ∧ w' = w := by
  go_enter Tryd.func18, Tryd.ntmps18
  go_wp2
  go_ret
  exact ⟨rfl, rfl⟩
theorem fm_9 (w : World) : Calls Tryd.prog 18 #[.int .i64 9] w fun e w' => e = .returned (.int .i64 3) ∧ w' = w := by
  go_enter Tryd.func18, Tryd.ntmps18
  go_wp2
  go_ret
  exact ⟨rfl, rfl⟩
theorem fm_10 (w : World) : Calls Tryd.prog 18 #[.int .i64 10] w fun e w' => e = .returned (.int .i64 3) ∧ w' = w := by
  go_enter Tryd.func18, Tryd.ntmps18
  go_wp2
  go_ret
  exact ⟨rfl, rfl⟩
theorem fm_11 (w : World) : Calls Tryd.prog 18 #[.int .i64 11] w fun e w' => e = .returned (.int .i64 2) ∧ w' = w := by
  go_enter Tryd.func18, Tryd.ntmps18
  go_wp2
  go_ret
  exact ⟨rfl, rfl⟩
theorem fm_12 (w : World) : Calls Tryd.prog 18 #[.int .i64 12] w fun e w' => e = .returned (.int .i64 2) ∧ w' = w := by
  go_enter Tryd.func18, Tryd.ntmps18
  go_wp2
  go_ret
  exact ⟨rfl, rfl⟩
theorem fm_13 (w : World) : Calls Tryd.prog 18 #[.int .i64 13] w fun e w' => e = .returned (.int .i64 2) ∧ w' = w := by
  go_enter Tryd.func18, Tryd.ntmps18
  go_wp2
  go_ret
  exact ⟨rfl, rfl⟩
theorem fm_14 (w : World) : Calls Tryd.prog 18 #[.int .i64 14] w fun e w' => e = .returned (.int .i64 2) ∧ w' = w := by
  go_enter Tryd.func18, Tryd.ntmps18
  go_wp2
  go_ret
  exact ⟨rfl, rfl⟩
theorem fm_15 (w : World) : Calls Tryd.prog 18 #[.int .i64 15] w fun e w' => e = .returned (.int .i64 2) ∧ w' = w := by
  go_enter Tryd.func18, Tryd.ntmps18
  go_wp2
  go_ret
  exact ⟨rfl, rfl⟩
theorem fm_16 (w : World) : Calls Tryd.prog 18 #[.int .i64 16] w fun e w' => e = .returned (.int .i64 4) ∧ w' = w := by
  go_enter Tryd.func18, Tryd.ntmps18
  go_wp2
  go_ret
  exact ⟨rfl, rfl⟩
theorem fm_17 (w : World) : Calls Tryd.prog 18 #[.int .i64 17] w fun e w' => e = .returned (.int .i64 4) ∧ w' = w := by
  go_enter Tryd.func18, Tryd.ntmps18
  go_wp2
  go_ret
  exact ⟨rfl, rfl⟩
theorem fm_18 (w : World) : Calls Tryd.prog 18 #[.int .i64 18] w fun e w' => e = .returned (.int .i64 4) ∧ w' = w := by
  go_enter Tryd.func18, Tryd.ntmps18
  go_wp2
  go_ret
  exact ⟨rfl, rfl⟩
theorem fm_19 (w : World) : Calls Tryd.prog 18 #[.int .i64 19] w fun e w' => e = .returned (.int .i64 2) ∧ w' = w := by
  go_enter Tryd.func18, Tryd.ntmps18
  go_wp2
  go_ret
  exact ⟨rfl, rfl⟩
theorem fm_20 (w : World) : Calls Tryd.prog 18 #[.int .i64 20] w fun e w' => e = .returned (.int .i64 2) ∧ w' = w := by
  go_enter Tryd.func18, Tryd.ntmps18
  go_wp2
  go_ret
  exact ⟨rfl, rfl⟩
theorem fm_21 (w : World) : Calls Tryd.prog 18 #[.int .i64 21] w fun e w' => e = .returned (.int .i64 2) ∧ w' = w := by
  go_enter Tryd.func18, Tryd.ntmps18
  go_wp2
  go_ret
  exact ⟨rfl, rfl⟩
theorem fm_22 (w : World) : Calls Tryd.prog 18 #[.int .i64 22] w fun e w' => e = .returned (.int .i64 2) ∧ w' = w := by
  go_enter Tryd.func18, Tryd.ntmps18
  go_wp2
  go_ret
  exact ⟨rfl, rfl⟩
theorem fm_23 (w : World) : Calls Tryd.prog 18 #[.int .i64 23] w fun e w' => e = .returned (.int .i64 2) ∧ w' = w := by
  go_enter Tryd.func18, Tryd.ntmps18
  go_wp2
  go_ret
  exact ⟨rfl, rfl⟩
theorem fm_24 (w : World) : Calls Tryd.prog 18 #[.int .i64 24] w fun e w' => e = .returned (.int .i64 2) ∧ w' = w := by
  go_enter Tryd.func18, Tryd.ntmps18
  go_wp2
  go_ret
  exact ⟨rfl, rfl⟩
theorem fm_25 (w : World) : Calls Tryd.prog 18 #[.int .i64 25] w fun e w' => e = .returned (.int .i64 6) ∧ w' = w := by
  go_enter Tryd.func18, Tryd.ntmps18
  go_wp2
  go_ret
  exact ⟨rfl, rfl⟩
theorem fm_26 (w : World) : Calls Tryd.prog 18 #[.int .i64 26] w fun e w' => e = .returned (.int .i64 6) ∧ w' = w := by
  go_enter Tryd.func18, Tryd.ntmps18
  go_wp2
  go_ret
  exact ⟨rfl, rfl⟩
theorem fm_27 (w : World) : Calls Tryd.prog 18 #[.int .i64 27] w fun e w' => e = .returned (.int .i64 6) ∧ w' = w := by
  go_enter Tryd.func18, Tryd.ntmps18
  go_wp2
  go_ret
  exact ⟨rfl, rfl⟩
theorem fm_28 (w : World) : Calls Tryd.prog 18 #[.int .i64 28] w fun e w' => e = .returned (.int .i64 5) ∧ w' = w := by
  go_enter Tryd.func18, Tryd.ntmps18
  go_wp2
  go_ret
  exact ⟨rfl, rfl⟩
theorem fm_29 (w : World) : Calls Tryd.prog 18 #[.int .i64 29] w fun e w' => e = .returned (.int .i64 5) ∧ w' = w := by
  go_enter Tryd.func18, Tryd.ntmps18
  go_wp2
  go_ret
  exact ⟨rfl, rfl⟩
theorem fm_30 (w : World) : Calls Tryd.prog 18 #[.int .i64 30] w fun e w' => e = .returned (.int .i64 5) ∧ w' = w := by
  go_enter Tryd.func18, Tryd.ntmps18
  go_wp2
  go_ret
  exact ⟨rfl, rfl⟩
theorem fm_31 (w : World) : Calls Tryd.prog 18 #[.int .i64 31] w fun e w' => e = .returned (.int .i64 5) ∧ w' = w := by
  go_enter Tryd.func18, Tryd.ntmps18
  go_wp2
  go_ret
  exact ⟨rfl, rfl⟩
theorem fm_32 (w : World) : Calls Tryd.prog 18 #[.int .i64 32] w fun e w' => e = .returned (.int .i64 5) ∧ w' = w := by
  go_enter Tryd.func18, Tryd.ntmps18
  go_wp2
  go_ret
  exact ⟨rfl, rfl⟩
theorem fm_33 (w : World) : Calls Tryd.prog 18 #[.int .i64 33] w fun e w' => e = .returned (.int .i64 5) ∧ w' = w := by
  go_enter Tryd.func18, Tryd.ntmps18
  go_wp2
  go_ret
  exact ⟨rfl, rfl⟩
theorem fm_34 (w : World) : Calls Tryd.prog 18 #[.int .i64 34] w fun e w' => e = .returned (.int .i64 5) ∧ w' = w := by
  go_enter Tryd.func18, Tryd.ntmps18
  go_wp2
  go_ret
  exact ⟨rfl, rfl⟩
theorem fm_35 (w : World) : Calls Tryd.prog 18 #[.int .i64 35] w fun e w' => e = .returned (.int .i64 5) ∧ w' = w := by
  go_enter Tryd.func18, Tryd.ntmps18
  go_wp2
  go_ret
  exact ⟨rfl, rfl⟩
theorem fm_36 (w : World) : Calls Tryd.prog 18 #[.int .i64 36] w fun e w' => e = .returned (.int .i64 5) ∧ w' = w := by
  go_enter Tryd.func18, Tryd.ntmps18
  go_wp2
  go_ret
  exact ⟨rfl, rfl⟩
theorem fm_37 (w : World) : Calls Tryd.prog 18 #[.int .i64 37] w fun e w' => e = .returned (.int .i64 5) ∧ w' = w := by
  go_enter Tryd.func18, Tryd.ntmps18
  go_wp2
  go_ret
  exact ⟨rfl, rfl⟩
theorem fm_38 (w : World) : Calls Tryd.prog 18 #[.int .i64 38] w fun e w' => e = .returned (.int .i64 5) ∧ w' = w := by
  go_enter Tryd.func18, Tryd.ntmps18
  go_wp2
  go_ret
  exact ⟨rfl, rfl⟩
theorem fm_39 (w : World) : Calls Tryd.prog 18 #[.int .i64 39] w fun e w' => e = .returned (.int .i64 5) ∧ w' = w := by
  go_enter Tryd.func18, Tryd.ntmps18
  go_wp2
  go_ret
  exact ⟨rfl, rfl⟩
theorem fm_40 (w : World) : Calls Tryd.prog 18 #[.int .i64 40] w fun e w' => e = .returned (.int .i64 5) ∧ w' = w := by
  go_enter Tryd.func18, Tryd.ntmps18
  go_wp2
  go_ret
  exact ⟨rfl, rfl⟩
theorem fm_41 (w : World) : Calls Tryd.prog 18 #[.int .i64 41] w fun e w' => e = .returned (.int .i64 5) ∧ w' = w := by
  go_enter Tryd.func18, Tryd.ntmps18
  go_wp2
  go_ret
  exact ⟨rfl, rfl⟩
theorem fm_42 (w : World) : Calls Tryd.prog 18 #[.int .i64 42] w fun e w' => e = .returned (.int .i64 5) ∧ w' = w := by
  go_enter Tryd.func18, Tryd.ntmps18
  go_wp2
  go_ret
  exact ⟨rfl, rfl⟩
theorem fm_43 (w : World) : Calls Tryd.prog 18 #[.int .i64 43] w fun e w' => e = .returned (.int .i64 5) ∧ w' = w := by
  go_enter Tryd.func18, Tryd.ntmps18
  go_wp2
  go_ret
  exact ⟨rfl, rfl⟩
theorem fm_44 (w : World) : Calls Tryd.prog 18 #[.int .i64 44] w fun e w' => e = .returned (.int .i64 5) ∧ w' = w := by
  go_enter Tryd.func18, Tryd.ntmps18
  go_wp2
  go_ret
  exact ⟨rfl, rfl⟩
theorem fm_45 (w : World) : Calls Tryd.prog 18 #[.int .i64 45] w fun e w' => e = .returned (.int .i64 5) ∧ w' = w := by
  go_enter Tryd.func18, Tryd.ntmps18
  go_wp2
  go_ret
  exact ⟨rfl, rfl⟩
theorem fm_46 (w : World) : Calls Tryd.prog 18 #[.int .i64 46] w fun e w' => e = .returned (.int .i64 8) ∧ w' = w := by
  go_enter Tryd.func18, Tryd.ntmps18
  go_wp2
  go_ret
  exact ⟨rfl, rfl⟩
theorem fm_47 (w : World) : Calls Tryd.prog 18 #[.int .i64 47] w fun e w' => e = .returned (.int .i64 7) ∧ w' = w := by
  go_enter Tryd.func18, Tryd.ntmps18
  go_wp2
  go_ret
  exact ⟨rfl, rfl⟩
theorem fm_48 (w : World) : Calls Tryd.prog 18 #[.int .i64 48] w fun e w' => e = .returned (.int .i64 7) ∧ w' = w := by
  go_enter Tryd.func18, Tryd.ntmps18
  go_wp2
  go_ret
  exact ⟨rfl, rfl⟩
theorem fm_49 (w : World) : Calls Tryd.prog 18 #[.int .i64 49] w fun e w' => e = .returned (.int .i64 7) ∧ w' = w := by
  go_enter Tryd.func18, Tryd.ntmps18
  go_wp2
  go_ret
  exact ⟨rfl, rfl⟩
theorem fm_50 (w : World) : Calls Tryd.prog 18 #[.int .i64 50] w fun e w' => e = .returned (.int .i64 7) ∧ w' = w := by
  go_enter Tryd.func18, Tryd.ntmps18
  go_wp2
  go_ret
  exact ⟨rfl, rfl⟩
theorem fm_51 (w : World) : Calls Tryd.prog 18 #[.int .i64 51] w fun e w' => e = .returned (.int .i64 7) ∧ w' = w := by
  go_enter Tryd.func18, Tryd.ntmps18
  go_wp2
  go_ret
  exact ⟨rfl, rfl⟩
theorem fm_52 (w : World) : Calls Tryd.prog 18 #[.int .i64 52] w fun e w' => e = .returned (.int .i64 7) ∧ w' = w := by
  go_enter Tryd.func18, Tryd.ntmps18
  go_wp2
  go_ret
  exact ⟨rfl, rfl⟩
theorem fm_53 (w : World) : Calls Tryd.prog 18 #[.int .i64 53] w fun e w' => e = .returned (.int .i64 7) ∧ w' = w := by
  go_enter Tryd.func18, Tryd.ntmps18
  go_wp2
  go_ret
  exact ⟨rfl, rfl⟩
theorem fm_54 (w : World) : Calls Tryd.prog 18 #[.int .i64 54] w fun e w' => e = .returned (.int .i64 7) ∧ w' = w := by
  go_enter Tryd.func18, Tryd.ntmps18
  go_wp2
  go_ret
  exact ⟨rfl, rfl⟩
theorem fm_55 (w : World) : Calls Tryd.prog 18 #[.int .i64 55] w fun e w' => e = .returned (.int .i64 7) ∧ w' = w := by
  go_enter Tryd.func18, Tryd.ntmps18
  go_wp2
  go_ret
  exact ⟨rfl, rfl⟩
theorem fm_56 (w : World) : Calls Tryd.prog 18 #[.int .i64 56] w fun e w' => e = .returned (.int .i64 7) ∧ w' = w := by
  go_enter Tryd.func18, Tryd.ntmps18
  go_wp2
  go_ret
  exact ⟨rfl, rfl⟩
theorem fm_57 (w : World) : Calls Tryd.prog 18 #[.int .i64 57] w fun e w' => e = .returned (.int .i64 9) ∧ w' = w := by
  go_enter Tryd.func18, Tryd.ntmps18
  go_wp2
  go_ret
  exact ⟨rfl, rfl⟩
theorem fm_58 (w : World) : Calls Tryd.prog 18 #[.int .i64 58] w fun e w' => e = .returned (.int .i64 10) ∧ w' = w := by
  go_enter Tryd.func18, Tryd.ntmps18
  go_wp2
  go_ret
  exact ⟨rfl, rfl⟩
theorem fm_59 (w : World) : Calls Tryd.prog 18 #[.int .i64 59] w fun e w' => e = .returned (.int .i64 10) ∧ w' = w := by
  go_enter Tryd.func18, Tryd.ntmps18
  go_wp2
  go_ret
  exact ⟨rfl, rfl⟩
theorem fm_60 (w : World) : Calls Tryd.prog 18 #[.int .i64 60] w fun e w' => e = .returned (.int .i64 10) ∧ w' = w := by
  go_enter Tryd.func18, Tryd.ntmps18
  go_wp2
  go_ret
  exact ⟨rfl, rfl⟩
theorem fm_61 (w : World) : Calls Tryd.prog 18 #[.int .i64 61] w fun e w' => e = .returned (.int .i64 10) ∧ w' = w := by
  go_enter Tryd.func18, Tryd.ntmps18
  go_wp2
  go_ret
  exact ⟨rfl, rfl⟩
theorem fm_62 (w : World) : Calls Tryd.prog 18 #[.int .i64 62] w fun e w' => e = .returned (.int .i64 10) ∧ w' = w := by
  go_enter Tryd.func18, Tryd.ntmps18
  go_wp2
  go_ret
  exact ⟨rfl, rfl⟩
theorem fm_63 (w : World) : Calls Tryd.prog 18 #[.int .i64 63] w fun e w' => e = .returned (.int .i64 11) ∧ w' = w := by
  go_enter Tryd.func18, Tryd.ntmps18
  go_wp2
  go_ret
  exact ⟨rfl, rfl⟩
theorem fm_64 (w : World) : Calls Tryd.prog 18 #[.int .i64 64] w fun e w' => e = .returned (.int .i64 12) ∧ w' = w := by
  go_enter Tryd.func18, Tryd.ntmps18
  go_wp2
  go_ret
  exact ⟨rfl, rfl⟩
theorem fm_65 (w : World) : Calls Tryd.prog 18 #[.int .i64 65] w fun e w' => e = .returned (.int .i64 12) ∧ w' = w := by
  go_enter Tryd.func18, Tryd.ntmps18
  go_wp2
  go_ret
  exact ⟨rfl, rfl⟩
theorem fm_66 (w : World) : Calls Tryd.prog 18 #[.int .i64 66] w fun e w' => e = .returned (.int .i64 12) ∧ w' = w := by
  go_enter Tryd.func18, Tryd.ntmps18
  go_wp2
  go_ret
  exact ⟨rfl, rfl⟩
theorem fm_67 (w : World) : Calls Tryd.prog 18 #[.int .i64 67] w fun e w' => e = .returned (.int .i64 12) ∧ w' = w := by
  go_enter Tryd.func18, Tryd.ntmps18
  go_wp2
  go_ret
  exact ⟨rfl, rfl⟩
theorem fm_68 (w : World) : Calls Tryd.prog 18 #[.int .i64 68] w fun e w' => e = .returned (.int .i64 12) ∧ w' = w := by
  go_enter Tryd.func18, Tryd.ntmps18
  go_wp2
  go_ret
  exact ⟨rfl, rfl⟩
theorem fm_69 (w : World) : Calls Tryd.prog 18 #[.int .i64 69] w fun e w' => e = .returned (.int .i64 12) ∧ w' = w := by
  go_enter Tryd.func18, Tryd.ntmps18
  go_wp2
  go_ret
  exact ⟨rfl, rfl⟩
theorem formatOf_any {n : Nat} (h : 1 ≤ n ∧ n ≤ 69) (w : World) : Calls Tryd.prog 18 #[.int .i64 n] w fun e w' => e = .returned (.int .i64 (fmO n)) ∧ w' = w := by
  have c : n = 1 ∨ n = 2 ∨ n = 3 ∨ n = 4 ∨ n = 5 ∨ n = 6 ∨ n = 7 ∨ n = 8 ∨ n = 9 ∨ n = 10 ∨ n = 11 ∨ n = 12 ∨ n = 13 ∨ n = 14 ∨ n = 15 ∨ n = 16 ∨ n = 17 ∨ n = 18 ∨ n = 19 ∨ n = 20 ∨ n = 21 ∨ n = 22 ∨ n = 23 ∨ n = 24 ∨ n = 25 ∨ n = 26 ∨ n = 27 ∨ n = 28 ∨ n = 29 ∨ n = 30 ∨ n = 31 ∨ n = 32 ∨ n = 33 ∨ n = 34 ∨ n = 35 ∨ n = 36 ∨ n = 37 ∨ n = 38 ∨ n = 39 ∨ n = 40 ∨ n = 41 ∨ n = 42 ∨ n = 43 ∨ n = 44 ∨ n = 45 ∨ n = 46 ∨ n = 47 ∨ n = 48 ∨ n = 49 ∨ n = 50 ∨ n = 51 ∨ n = 52 ∨ n = 53 ∨ n = 54 ∨ n = 55 ∨ n = 56 ∨ n = 57 ∨ n = 58 ∨ n = 59 ∨ n = 60 ∨ n = 61 ∨ n = 62 ∨ n = 63 ∨ n = 64 ∨ n = 65 ∨ n = 66 ∨ n = 67 ∨ n = 68 ∨ n = 69 := by omega
  rcases c with rfl | rfl | rfl | rfl | rfl | rfl | rfl | rfl | rfl | rfl | rfl | rfl | rfl | rfl | rfl | rfl | rfl | rfl | rfl | rfl | rfl | rfl | rfl | rfl | rfl | rfl | rfl | rfl | rfl | rfl | rfl | rfl | rfl | rfl | rfl | rfl | rfl | rfl | rfl | rfl | rfl | rfl | rfl | rfl | rfl | rfl | rfl | rfl | rfl | rfl | rfl | rfl | rfl | rfl | rfl | rfl | rfl | rfl | rfl | rfl | rfl | rfl | rfl | rfl | rfl | rfl | rfl | rfl | rfl
  · exact fm_1 w
  · exact fm_2 w
  · exact fm_3 w
  · exact fm_4 w
  · exact fm_5 w
  · exact fm_6 w
  · exact fm_7 w
  · exact fm_8 w
  · exact fm_9 w
  · exact fm_10 w
  · exact fm_11 w
  · exact fm_12 w
  · exact fm_13 w
  · exact fm_14 w
  · exact fm_15 w
  · exact fm_16 w
  · exact fm_17 w
  · exact fm_18 w
  · exact fm_19 w
  · exact fm_20 w
  · exact fm_21 w
  · exact fm_22 w
  · exact fm_23 w
  · exact fm_24 w
  · exact fm_25 w
  · exact fm_26 w
  · exact fm_27 w
  · exact fm_28 w
  · exact fm_29 w
  · exact fm_30 w
  · exact fm_31 w
  · exact fm_32 w
  · exact fm_33 w
  · exact fm_34 w
  · exact fm_35 w
  · exact fm_36 w
  · exact fm_37 w
  · exact fm_38 w
  · exact fm_39 w
  · exact fm_40 w
  · exact fm_41 w
  · exact fm_42 w
  · exact fm_43 w
  · exact fm_44 w
  · exact fm_45 w
  · exact fm_46 w
  · exact fm_47 w
  · exact fm_48 w
  · exact fm_49 w
  · exact fm_50 w
  · exact fm_51 w
  · exact fm_52 w
  · exact fm_53 w
  · exact fm_54 w
  · exact fm_55 w
  · exact fm_56 w
  · exact fm_57 w
  · exact fm_58 w
  · exact fm_59 w
  · exact fm_60 w
  · exact fm_61 w
  · exact fm_62 w
  · exact fm_63 w
  · exact fm_64 w
  · exact fm_65 w
  · exact fm_66 w
  · exact fm_67 w
  · exact fm_68 w
  · exact fm_69 w
end Go.Proofs.YtdloaeifiohefaaDoor
