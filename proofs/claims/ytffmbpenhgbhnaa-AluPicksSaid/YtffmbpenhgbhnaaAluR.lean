/- Layer alu's document: numbers with their sign, powers, shifts, halves of products, quotients. -/
import Derived.Test.YtffmbpenhgbhnaaAluM
import Derived.Test.YtffmbpenhgbhnaaBitsRef
namespace Go.Proofs.Ytffmbpenhgbhnaa
open Go.RowKit Bm

theorem power12_any (n : Int) (w : World) (h0 : 0 ≤ n) (h1 : n ≤ 31) :
    Calls Try.prog 40 #[.int .u32 n] w fun e w' => e = .returned (.int .u32 (pw n)) ∧ w' = w := by
  go_enter Try.func40, Try.ntmps40
  go_wp2
  go_loop [3, 4] (fun p i => ∃ k : Nat, (k : Int) ≤ n ∧ i = .int .u32 k ∧ p = .int .u32 (pw k)) (fun _ i => 32 - (intOf i).toNat)
  case atStart => exact ⟨0, by omega, rfl, rfl⟩
  case round =>
    obtain ⟨k, hk, rfl, rfl⟩ := hrel
    have p0 := pw_pos k
    by_cases hlt : (k : Int) < n
    · have p1 := pw_le (k + 1) (by omega)
      have e := pw_succ k
      rw [e] at p1
      have E := Lib.hid e
      have kw : IntKind.u32.wrap ((k : Int) + 1) = (k : Int) + 1 := by rw [IntKind.wrap_u32]; omega
      clear e
      go_wp2
      go_round
      case rel => exact ⟨k + 1, by omega, by go_num, by rw [show ((k + 1 : Nat) : Int) = (k : Int) + 1 by omega, E.out]⟩
      case measure => simp [intOf]; omega
    · have e : (k : Int) = n := by omega
      go_wp2
      go_ret
      exact ⟨by first | rfl | (rw [← e]; rfl), rfl⟩
theorem signed_any (a : BitVec 32) (w : World) : Calls Try.prog 31 #[.int .u32 (U a)] w fun e w' => e = .returned (.int .i64 a.toInt) ∧ w' = w := by
  have u0 := U_nonneg a
  have u1 := U_lt a
  have t := tI_U a
  have w0 : IntKind.i64.wrap (U a) = U a := by rw [IntKind.wrap_i64]; omega
  have w1 : IntKind.i64.wrap (U a - 4294967296) = U a - 4294967296 := by rw [IntKind.wrap_i64]; omega
  by_cases h : 2147483648 ≤ U a
  · rw [if_neg (by omega)] at t
    have T := Lib.hid t
    clear t
    go_enter Try.func31, Try.ntmps31
    go_wp2
    go_ret
    exact ⟨by rw [T.out]; rfl, rfl⟩
  · rw [if_pos (by omega)] at t
    have T := Lib.hid t
    clear t
    go_enter Try.func31, Try.ntmps31
    go_wp2
    go_ret
    exact ⟨by rw [T.out]; rfl, rfl⟩
theorem one_any (s : Bool) (w : World) : Calls Try.prog 30 #[.bool s] w fun e w' => e = .returned (.int .u32 (U (oneB s))) ∧ w' = w := by
  cases s
  · go_enter Try.func30, Try.ntmps30
    go_wp2
    go_ret
    exact ⟨rfl, rfl⟩
  · go_enter Try.func30, Try.ntmps30
    go_wp2
    go_ret
    exact ⟨rfl, rfl⟩
theorem choose_any (s : Bool) (a b : BitVec 32) (w : World) : Calls Try.prog 35 #[.bool s, .int .u32 (U a), .int .u32 (U b)] w fun e w' => e = .returned (.int .u32 (U (if s then a else b))) ∧ w' = w := by
  cases s
  · go_enter Try.func35, Try.ntmps35
    go_wp2
    go_ret
    exact ⟨rfl, rfl⟩
  · go_enter Try.func35, Try.ntmps35
    go_wp2
    go_ret
    exact ⟨rfl, rfl⟩
theorem pw_nat (n : Nat) : pw (n : Int) = 2 ^ n := by unfold pw; rw [Int.toNat_natCast]
theorem shift12_0 (a b : BitVec 32) (w : World) : Calls Try.prog 29 #[.int .u32 (U a), .int .u32 (U b), .int .i64 0] w fun e w' => e = .returned (.int .u32 (U (aOp 2 a b))) ∧ w' = w := by
  obtain ⟨n, hn⟩ : ∃ n : Nat, n = b.toNat % 32 := ⟨_, rfl⟩
  have h32 : n < 32 := by omega
  have hb : U b % 32 = (n : Int) := by unfold U; omega
  have hb2 : (U b).tmod 32 = (n : Int) := by rw [Int.tmod_eq_emod_of_nonneg (U_nonneg b), hb]
  have HP := Lib.hid (power12_any (n : Int) w (by omega) (by omega))
  have HV : Hid (IntKind.u32.wrap (U a * pw n) = U (aOp 2 a b)) := Lib.hid (by
    rw [pw_nat, IntKind.wrap_u32, U_shl]
    show _ = U (a <<< (b.toNat % 32))
    rw [← hn])
  have hv := HV.out
  clear hn h32
  go_enter Try.func29, Try.ntmps29
  go_wp2_with (go_at_call 40; (with_reducible refine HP.out.mono ?_); rintro e w5 ⟨rfl, hq⟩; replace hq := hq.symm; subst hq)
  go_ret
  exact ⟨rfl, rfl⟩
theorem shift12_1 (a b : BitVec 32) (w : World) : Calls Try.prog 29 #[.int .u32 (U a), .int .u32 (U b), .int .i64 1] w fun e w' => e = .returned (.int .u32 (U (aOp 6 a b))) ∧ w' = w := by
  obtain ⟨n, hn⟩ : ∃ n : Nat, n = b.toNat % 32 := ⟨_, rfl⟩
  have h32 : n < 32 := by omega
  have hb : U b % 32 = (n : Int) := by unfold U; omega
  have hb2 : (U b).tmod 32 = (n : Int) := by rw [Int.tmod_eq_emod_of_nonneg (U_nonneg b), hb]
  have HP := Lib.hid (power12_any (n : Int) w (by omega) (by omega))
  have p0 := pw_pos n
  have u0 := U_nonneg a
  have hv : (U a).tdiv (pw n) % 4294967296 = U (aOp 6 a b) := by
    rw [Int.tdiv_eq_ediv_of_nonneg u0, pw_nat, U_shr, Int.emod_eq_of_lt (U_nonneg _) (U_lt _)]
    show _ = U (a >>> (b.toNat % 32))
    rw [← hn]
  have HVV := Lib.hid hv
  clear hn h32
  go_enter Try.func29, Try.ntmps29
  go_wp2_with (go_at_call 40; (with_reducible refine HP.out.mono ?_); rintro e w5 ⟨rfl, hq⟩; replace hq := hq.symm; subst hq)
  go_ret
  exact ⟨by first | rfl | (rw [← HVV.out]; rfl), rfl⟩
theorem shift12_2 (a b : BitVec 32) (w : World) : Calls Try.prog 29 #[.int .u32 (U a), .int .u32 (U b), .int .i64 2] w fun e w' => e = .returned (.int .u32 (U (aOp 7 a b))) ∧ w' = w := by
  obtain ⟨n, hn⟩ : ∃ n : Nat, n = b.toNat % 32 := ⟨_, rfl⟩
  have h32 : n < 32 := by omega
  have hb : U b % 32 = (n : Int) := by unfold U; omega
  have hb2 : (U b).tmod 32 = (n : Int) := by rw [Int.tmod_eq_emod_of_nonneg (U_nonneg b), hb]
  have HP := Lib.hid (power12_any (n : Int) w (by omega) (by omega))
  have HS := Lib.hid (rsign_any (a >>> n) (32 - (n : Int)) w)
  have p0 := pw_pos n
  have u0 := U_nonneg a
  have hv : (U a).tdiv (pw n) % 4294967296 = U (a >>> n) := by rw [Int.tdiv_eq_ediv_of_nonneg u0, pw_nat, U_shr, Int.emod_eq_of_lt (U_nonneg _) (U_lt _)]
  have hx : IntKind.i64.wrap (n : Int) = (n : Int) := by rw [IntKind.wrap_i64]; omega
  have hy : IntKind.i64.wrap (32 - (n : Int)) = 32 - (n : Int) := by rw [IntKind.wrap_i64]; omega
  have HE : Hid (aOp 7 a b = signB (a >>> n) (32 - (n : Int))) := Lib.hid (by rw [sign_sshr a n h32, hn]; rfl)
  clear hn h32
  go_enter Try.func29, Try.ntmps29
  go_wp2_with (first
    | (go_at_call 40; (with_reducible refine HP.out.mono ?_); rintro e w5 ⟨rfl, hq⟩; replace hq := hq.symm; subst hq)
    | (go_at_call 37; (with_reducible refine HS.out.mono ?_); rintro e w5 ⟨rfl, hq⟩; replace hq := hq.symm; subst hq))
  go_ret
  exact ⟨by rw [HE.out]; rfl, rfl⟩
set_option maxHeartbeats 2000000 in
theorem same12_any (n : Int) (w : World) (h0 : -9223372036854775808 ≤ n) (h1 : n ≤ 9223372036854775807) : Calls Try.prog 28 #[.int .i64 n] w fun e w' => e = .returned (.int .i64 (sameN n)) ∧ Below w.heap.size w w' := by
  by_cases a : n < 19
  · have HS : Hid (sameN n = n) := Lib.hid (by unfold sameN; rw [if_pos (by omega)])
    go_enter Try.func28, Try.ntmps28
    go_wp2
    go_ret
    exact ⟨by rw [HS.out]; rfl, Below.refl _ _⟩
  · by_cases b : 27 < n
    · have HS : Hid (sameN n = n) := Lib.hid (by unfold sameN; rw [if_pos (by omega)])
      go_enter Try.func28, Try.ntmps28
      go_wp2
      go_ret
      exact ⟨by rw [HS.out]; rfl, Below.refl _ _⟩
    · have c : n = 19 ∨ n = 20 ∨ n = 21 ∨ n = 22 ∨ n = 23 ∨ n = 24 ∨ n = 25 ∨ n = 26 ∨ n = 27 := by omega
      have LB : ∀ o, Below w.heap.size w (w.alloc o) := fun o => (Below.refl _ w).alloc (Nat.le_refl _) _
      rcases c with rfl | rfl | rfl | rfl | rfl | rfl | rfl | rfl | rfl
      all_goals
        go_enter Try.func28, Try.ntmps28
        go_wp2
        go_ret
        exact ⟨rfl, LB _⟩
set_option maxHeartbeats 2000000 in
theorem high_0 (a b : BitVec 32) (w : World) : Calls Try.prog 41 #[.int .u32 (U a), .int .u32 (U b), .int .i64 0] w fun e w' => e = .returned (.int .u32 (U (aOp 13 a b))) ∧ w' = w := by
  obtain ⟨P, hP⟩ : ∃ P, P = U a * U b := ⟨_, rfl⟩
  have pb := prod_b a b
  rw [← hP] at pb
  have wa : IntKind.u64.wrap (U a) = U a := by have := U_nonneg a; have := U_lt a; rw [IntKind.wrap_u64]; omega
  have wb : IntKind.u64.wrap (U b) = U b := by have := U_nonneg b; have := U_lt b; rw [IntKind.wrap_u64]; omega
  have wp : IntKind.u64.wrap (U a * U b) = P := by rw [IntKind.wrap_u64, ← hP]; omega
  obtain ⟨Q, hQ⟩ : ∃ Q, Q = P / 4294967296 := ⟨_, rfl⟩
  have wq : P.tdiv 4294967296 = Q := by rw [Int.tdiv_eq_ediv_of_nonneg pb.1, hQ]
  have wq2 : IntKind.u64.wrap Q = Q := by rw [IntKind.wrap_u64]; omega
  obtain ⟨H, hH⟩ : ∃ H, H = aOp 13 a b := ⟨_, rfl⟩
  have wr : Q % 4294967296 = U H := by
    have := high0 a b
    rw [← hP, ← hH, Int.emod_eq_of_lt pb.1 (by omega), ← hQ] at this
    exact this
  have WR := Lib.hid wr
  obtain ⟨H1, hH1⟩ : ∃ H, H = aOp 12 a b := ⟨_, rfl⟩
  have s1 := fun h => high1 a b h
  have s1n := fun h => high1n a b h
  have s2 := fun h => high2 a b h
  have s2n := fun h => high2n a b h
  rw [← hH1] at s2n s1n
  rw [← hH] at s1n
  rw [← hH, ← hH1] at s1
  rw [← hH1] at s2
  obtain ⟨H2, hH2⟩ : ∃ H, H = aOp 11 a b := ⟨_, rfl⟩
  rw [← hH2] at s2 s2n
  rw [← hH]
  clear hP pb hQ hH hH1 hH2 s1 s1n s2 s2n
  go_enter Try.func41, Try.ntmps41
  go_wp2
  go_ret
  exact ⟨by first | rfl | (rw [← WR.out]; rfl), rfl⟩
set_option maxHeartbeats 2000000 in
theorem high_1 (a b : BitVec 32) (w : World) : Calls Try.prog 41 #[.int .u32 (U a), .int .u32 (U b), .int .i64 1] w fun e w' => e = .returned (.int .u32 (U (aOp 12 a b))) ∧ w' = w := by
  obtain ⟨P, hP⟩ : ∃ P, P = U a * U b := ⟨_, rfl⟩
  have pb := prod_b a b
  rw [← hP] at pb
  have wa : IntKind.u64.wrap (U a) = U a := by have := U_nonneg a; have := U_lt a; rw [IntKind.wrap_u64]; omega
  have wb : IntKind.u64.wrap (U b) = U b := by have := U_nonneg b; have := U_lt b; rw [IntKind.wrap_u64]; omega
  have wp : IntKind.u64.wrap (U a * U b) = P := by rw [IntKind.wrap_u64, ← hP]; omega
  obtain ⟨Q, hQ⟩ : ∃ Q, Q = P / 4294967296 := ⟨_, rfl⟩
  have wq : P.tdiv 4294967296 = Q := by rw [Int.tdiv_eq_ediv_of_nonneg pb.1, hQ]
  have wq2 : IntKind.u64.wrap Q = Q := by rw [IntKind.wrap_u64]; omega
  obtain ⟨H, hH⟩ : ∃ H, H = aOp 13 a b := ⟨_, rfl⟩
  have wr : Q % 4294967296 = U H := by
    have := high0 a b
    rw [← hP, ← hH, Int.emod_eq_of_lt pb.1 (by omega), ← hQ] at this
    exact this
  obtain ⟨H1, hH1⟩ : ∃ H, H = aOp 12 a b := ⟨_, rfl⟩
  have s1 := fun h => high1 a b h
  have s1n := fun h => high1n a b h
  have s2 := fun h => high2 a b h
  have s2n := fun h => high2n a b h
  rw [← hH1] at s2n s1n
  rw [← hH] at s1n
  rw [← hH, ← hH1] at s1
  rw [← hH1] at s2
  obtain ⟨H2, hH2⟩ : ∃ H, H = aOp 11 a b := ⟨_, rfl⟩
  rw [← hH2] at s2 s2n
  rw [← hH1]
  by_cases h : 2147483648 ≤ U a
  · have t := s1 h
    have t2 : IntKind.u32.wrap (U H - U b) = U H1 := by rw [IntKind.wrap_u32]; exact t
    clear hP pb hQ hH hH1 hH2 s1 s1n s2 s2n
    go_enter Try.func41, Try.ntmps41
    go_wp2
    go_ret
    exact ⟨rfl, rfl⟩
  · obtain rfl := s1n h
    clear hP pb hQ hH hH1 hH2 s1 s1n s2 s2n
    go_enter Try.func41, Try.ntmps41
    go_wp2
    go_ret
    exact ⟨rfl, rfl⟩
set_option maxHeartbeats 4000000 in
theorem high_2 (a b : BitVec 32) (w : World) : Calls Try.prog 41 #[.int .u32 (U a), .int .u32 (U b), .int .i64 2] w fun e w' => e = .returned (.int .u32 (U (aOp 11 a b))) ∧ w' = w := by
  obtain ⟨P, hP⟩ : ∃ P, P = U a * U b := ⟨_, rfl⟩
  have pb := prod_b a b
  rw [← hP] at pb
  have wa : IntKind.u64.wrap (U a) = U a := by have := U_nonneg a; have := U_lt a; rw [IntKind.wrap_u64]; omega
  have wb : IntKind.u64.wrap (U b) = U b := by have := U_nonneg b; have := U_lt b; rw [IntKind.wrap_u64]; omega
  have wp : IntKind.u64.wrap (U a * U b) = P := by rw [IntKind.wrap_u64, ← hP]; omega
  obtain ⟨Q, hQ⟩ : ∃ Q, Q = P / 4294967296 := ⟨_, rfl⟩
  have wq : P.tdiv 4294967296 = Q := by rw [Int.tdiv_eq_ediv_of_nonneg pb.1, hQ]
  have wq2 : IntKind.u64.wrap Q = Q := by rw [IntKind.wrap_u64]; omega
  obtain ⟨H, hH⟩ : ∃ H, H = aOp 13 a b := ⟨_, rfl⟩
  have wr : Q % 4294967296 = U H := by
    have := high0 a b
    rw [← hP, ← hH, Int.emod_eq_of_lt pb.1 (by omega), ← hQ] at this
    exact this
  obtain ⟨H1, hH1⟩ : ∃ H, H = aOp 12 a b := ⟨_, rfl⟩
  have s1 := fun h => high1 a b h
  have s1n := fun h => high1n a b h
  have s2 := fun h => high2 a b h
  have s2n := fun h => high2n a b h
  rw [← hH1] at s2n s1n
  rw [← hH] at s1n
  rw [← hH, ← hH1] at s1
  rw [← hH1] at s2
  obtain ⟨H2, hH2⟩ : ∃ H, H = aOp 11 a b := ⟨_, rfl⟩
  rw [← hH2] at s2 s2n
  rw [← hH2]
  by_cases h : 2147483648 ≤ U a
  · have t := s1 h
    have t2 : IntKind.u32.wrap (U H - U b) = U H1 := by rw [IntKind.wrap_u32]; exact t
    by_cases g : 2147483648 ≤ U b
    · have t3 := s2 g
      have t4 : IntKind.u32.wrap (U H1 - U a) = U H2 := by rw [IntKind.wrap_u32]; exact t3
      clear hP pb hQ hH hH1 hH2 s1 s1n s2 s2n
      go_enter Try.func41, Try.ntmps41
      go_wp2
      go_ret
      exact ⟨rfl, rfl⟩
    · obtain rfl := s2n g
      clear hP pb hQ hH hH1 hH2 s1 s1n s2 s2n
      go_enter Try.func41, Try.ntmps41
      go_wp2
      go_ret
      exact ⟨rfl, rfl⟩
  · obtain rfl := s1n h
    by_cases g : 2147483648 ≤ U b
    · have t3 := s2 g
      have t4 : IntKind.u32.wrap (U H1 - U a) = U H2 := by rw [IntKind.wrap_u32]; exact t3
      clear hP pb hQ hH hH1 hH2 s1 s1n s2 s2n
      go_enter Try.func41, Try.ntmps41
      go_wp2
      go_ret
      exact ⟨rfl, rfl⟩
    · obtain rfl := s2n g
      clear hP pb hQ hH hH1 hH2 s1 s1n s2 s2n
      go_enter Try.func41, Try.ntmps41
      go_wp2
      go_ret
      exact ⟨rfl, rfl⟩
end Go.Proofs.Ytffmbpenhgbhnaa
