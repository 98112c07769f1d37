/- What the program of layer alu answers. -/
import Derived.Test.YtffmbpenhgbhnaaAluQ
namespace Go.Proofs.Ytffmbpenhgbhnaa
open Go.RowKit Bm

theorem same_in (n : Int) (h0 : 19 ≤ n) (h1 : n ≤ 45) : 28 ≤ sameN n ∧ sameN n ≤ 45 := by
  by_cases h : 27 < n
  · unfold sameN; rw [if_pos (by omega)]; omega
  · have c : n = 19 ∨ n = 20 ∨ n = 21 ∨ n = 22 ∨ n = 23 ∨ n = 24 ∨ n = 25 ∨ n = 26 ∨ n = 27 := by omega
    rcases c with rfl | rfl | rfl | rfl | rfl | rfl | rfl | rfl | rfl <;> decide
theorem doIs_yes (n : Int) (h0 : 19 ≤ n) (h1 : n ≤ 45) : doIs n = true := by
  have h := same_in n h0 h1
  unfold doIs
  simp [h.1, h.2]
theorem doIs_no (n : Int) (h : n < 19 ∨ 45 < n) : doIs n = false := by
  have e : sameN n = n := by unfold sameN; rw [if_pos (by omega)]
  unfold doIs
  rw [e]
  simp
  omega
theorem doM_yes (n : Int) (a b : BitVec 32) (h0 : 19 ≤ n) (h1 : n ≤ 45) : doM n a b = aOp (sameN n - 28).toNat a b := by unfold doM; rw [doIs_yes n h0 h1]; rfl
theorem doM_no (n : Int) (a b : BitVec 32) (h : n < 19 ∨ 45 < n) : doM n a b = 0#32 := by unfold doM; rw [doIs_no n h]; rfl

theorem do_any (n : Int) (a b : BitVec 32) (w : World) : Calls Try.prog 12 #[.int .i64 n, .int .u32 (U a), .int .u32 (U b)] w fun e w' => e = .returned (.tuple #[.int .u32 (U (doM n a b)), .bool (doIs n)]) ∧ ∃ k, w' = w.drewN k := by
  by_cases h : 19 ≤ n ∧ n ≤ 45
  · have hs := same_in n h.1 h.2
    have HO := Lib.hid (operation_yes n w h.1 h.2)
    have HA := Lib.hid (apply_yes (opF_is (sameN n - 28).toNat (by omega)) a b w)
    have HE := Lib.hid (doM_yes n a b h.1 h.2)
    have HI := Lib.hid (doIs_yes n h.1 h.2)
    obtain ⟨f, hf⟩ : ∃ f, f = opF (sameN n - 28).toNat := ⟨_, rfl⟩
    rw [← hf] at HO HA
    clear hs hf h
    go_enter Try.func12, Try.ntmps12
    go_wp2_with (first | (go_at_call 27; (with_reducible refine HO.out.mono ?_); rintro e w5 ⟨rfl, hq⟩; replace hq := hq.symm; subst hq) | (go_at_call 26; (with_reducible refine HA.out.mono ?_); rintro e w5 ⟨rfl, k, hq⟩; replace hq := hq.symm; subst hq))
    go_ret2
    exact ⟨by rw [HE.out, HI.out]; rfl, k, rfl⟩
  · have HO := Lib.hid (operation_no n w (by omega))
    have HA := Lib.hid (apply_no a b w)
    have HE := Lib.hid (doM_no n a b (by omega))
    have HI := Lib.hid (doIs_no n (by omega))
    clear h
    go_enter Try.func12, Try.ntmps12
    go_wp2_with (first | (go_at_call 27; (with_reducible refine HO.out.mono ?_); rintro e w5 ⟨rfl, hq⟩; replace hq := hq.symm; subst hq) | (go_at_call 26; (with_reducible refine HA.out.mono ?_); rintro e w5 ⟨rfl, k, hq⟩; replace hq := hq.symm; subst hq))
    go_ret2
    exact ⟨by rw [HE.out, HI.out]; rfl, k, rfl⟩
theorem amo_any (n : Int) (a b : BitVec 32) (w : World) : Calls Try.prog 16 #[.int .i64 n, .int .u32 (U a), .int .u32 (U b)] w fun e w' => e = .returned (.tuple #[.int .u32 (U (amM n a b)), .bool (amIs n)]) ∧ ∃ k, w' = w.drewN k := by
  by_cases h : 48 ≤ n ∧ n ≤ 56
  · have HO := Lib.hid (exchange_yes n w h.1 h.2)
    have HA := Lib.hid (apply_yes (amF_is (n - 48).toNat (by omega)) a b w)
    have HI : Hid (amIs n = true) := Lib.hid (by unfold amIs; simp [h.1, h.2])
    have HE : Hid (amM n a b = mOp (n - 48).toNat a b) := Lib.hid (by unfold amM; rw [HI.out]; rfl)
    obtain ⟨f, hf⟩ : ∃ f, f = amF (n - 48).toNat := ⟨_, rfl⟩
    rw [← hf] at HO HA
    clear hf h
    go_enter Try.func16, Try.ntmps16
    go_wp2_with (first | (go_at_call 34; (with_reducible refine HO.out.mono ?_); rintro e w5 ⟨rfl, hq⟩; replace hq := hq.symm; subst hq) | (go_at_call 26; (with_reducible refine HA.out.mono ?_); rintro e w5 ⟨rfl, k, hq⟩; replace hq := hq.symm; subst hq))
    go_ret2
    exact ⟨by rw [HE.out, HI.out]; rfl, k, rfl⟩
  · have HO := Lib.hid (exchange_no n w (by omega))
    have HA := Lib.hid (apply_no a b w)
    have HI : Hid (amIs n = false) := Lib.hid (by unfold amIs; simp; omega)
    have HE : Hid (amM n a b = 0#32) := Lib.hid (by unfold amM; rw [HI.out]; rfl)
    clear h
    go_enter Try.func16, Try.ntmps16
    go_wp2_with (first | (go_at_call 34; (with_reducible refine HO.out.mono ?_); rintro e w5 ⟨rfl, hq⟩; replace hq := hq.symm; subst hq) | (go_at_call 26; (with_reducible refine HA.out.mono ?_); rintro e w5 ⟨rfl, k, hq⟩; replace hq := hq.symm; subst hq))
    go_ret2
    exact ⟨by rw [HE.out, HI.out]; rfl, k, rfl⟩
theorem branch_any (n : Int) (a b : BitVec 32) (w : World) : Calls Try.prog 14 #[.int .i64 n, .int .u32 (U a), .int .u32 (U b)] w fun e w' => e = .returned (.tuple #[.bool (brM n a b), .bool (brIs n)]) ∧ w' = w := by
  by_cases h : 5 ≤ n ∧ n ≤ 10
  · have HO := Lib.hid (condition_yes n w h.1 h.2)
    have hc := brF_is (n - 5).toNat (by omega)
    have HI : Hid (brIs n = true) := Lib.hid (by unfold brIs; simp [h.1, h.2])
    have HE : Hid (brM n a b = bOp (n - 5).toNat a b) := Lib.hid (by unfold brM; rw [HI.out, Bool.true_and])
    obtain ⟨f, hf⟩ : ∃ f, f = brF (n - 5).toNat := ⟨_, rfl⟩
    obtain ⟨r, hr⟩ : ∃ r, r = bOp (n - 5).toNat a b := ⟨_, rfl⟩
    rw [← hf] at HO hc
    have ef := hc.ent
    have HR := Lib.hid (hc.run a b w)
    rw [← hr] at HR HE
    have q1 := fnB_eql f
    clear hf h hr hc
    go_enter Try.func14, Try.ntmps14
    go_wp2_with (first | (go_at_call 33; (with_reducible refine HO.out.mono ?_); rintro e w5 ⟨rfl, hq⟩; replace hq := hq.symm; subst hq) | ((with_reducible refine HR.out.mono ?_); rintro e w5 ⟨rfl, hq⟩; replace hq := hq.symm; subst hq))
    go_ret2
    exact ⟨by rw [HE.out, HI.out]; rfl, rfl⟩
  · have HO := Lib.hid (condition_no n w (by omega))
    have HI : Hid (brIs n = false) := Lib.hid (by unfold brIs; simp; omega)
    have HE : Hid (brM n a b = false) := Lib.hid (by unfold brM; rw [HI.out]; rfl)
    have q1 := nilB_eql
    clear h
    go_enter Try.func14, Try.ntmps14
    go_wp2_with (go_at_call 33; (with_reducible refine HO.out.mono ?_); rintro e w5 ⟨rfl, hq⟩; replace hq := hq.symm; subst hq)
    go_ret2
    exact ⟨by rw [HE.out, HI.out]; rfl, rfl⟩
theorem load_any (n : Int) (a : BitVec 32) (w : World) : Calls Try.prog 18 #[.int .i64 n, .int .u32 (U a)] w fun e w' => e = .returned (.tuple #[.int .u32 (U (ldM n a)), .bool (ldIs n)]) ∧ w' = w := by
  by_cases h : 11 ≤ n ∧ n ≤ 15
  · have HO := Lib.hid (reading_yes n w h.1 h.2)
    have hc := ldF_is (n - 11).toNat (by omega)
    have HI : Hid (ldIs n = true) := Lib.hid (by unfold ldIs; simp [h.1, h.2])
    have HE : Hid (ldM n a = lOp (n - 11).toNat a) := Lib.hid (by unfold ldM; rw [HI.out]; rfl)
    obtain ⟨f, hf⟩ : ∃ f, f = ldF (n - 11).toNat := ⟨_, rfl⟩
    obtain ⟨r, hr⟩ : ∃ r, r = lOp (n - 11).toNat a := ⟨_, rfl⟩
    rw [← hf] at HO hc
    have ef := hc.ent
    have HR := Lib.hid (hc.run a w)
    rw [← hr] at HR HE
    have q1 := fn1_eql f
    clear hf h hr hc
    go_enter Try.func18, Try.ntmps18
    go_wp2_with (first | (go_at_call 36; (with_reducible refine HO.out.mono ?_); rintro e w5 ⟨rfl, hq⟩; replace hq := hq.symm; subst hq) | ((with_reducible refine HR.out.mono ?_); rintro e w5 ⟨rfl, hq⟩; replace hq := hq.symm; subst hq))
    go_ret2
    exact ⟨by rw [HE.out, HI.out]; rfl, rfl⟩
  · have HO := Lib.hid (reading_no n w (by omega))
    have HI : Hid (ldIs n = false) := Lib.hid (by unfold ldIs; simp; omega)
    have HE : Hid (ldM n a = 0#32) := Lib.hid (by unfold ldM; rw [HI.out]; rfl)
    have q1 := nil1_eql
    clear h
    go_enter Try.func18, Try.ntmps18
    go_wp2_with (go_at_call 36; (with_reducible refine HO.out.mono ?_); rintro e w5 ⟨rfl, hq⟩; replace hq := hq.symm; subst hq)
    go_ret2
    exact ⟨by rw [HE.out, HI.out]; rfl, rfl⟩

set_option maxHeartbeats 2000000 in
theorem size_any (n : Int) (w : World) : Calls Try.prog 20 #[.int .i64 n] w fun e w' => e = .returned (.int .i64 (szM n)) ∧ w' = w := by
  by_cases c : n = 11 ∨ n = 12 ∨ n = 13 ∨ n = 14 ∨ n = 15 ∨ n = 16 ∨ n = 17 ∨ n = 18 ∨ n = 46 ∨ n = 47
  · rcases c with rfl | rfl | rfl | rfl | rfl | rfl | rfl | rfl | rfl | rfl
    all_goals
      go_enter Try.func20, Try.ntmps20
      go_wp2
      go_ret
      exact ⟨rfl, rfl⟩
  · have d : ¬ n = 11 ∧ ¬ n = 12 ∧ ¬ n = 13 ∧ ¬ n = 14 ∧ ¬ n = 15 ∧ ¬ n = 16 ∧ ¬ n = 17 ∧ ¬ n = 18 ∧ ¬ n = 46 ∧ ¬ n = 47 := by omega
    obtain ⟨d11, d12, d13, d14, d15, d16, d17, d18, d46, d47⟩ := d
    by_cases h : 48 ≤ n ∧ n ≤ 56
    · have HO := Lib.hid (exchange_yes n w h.1 h.2)
      have HE : Hid (szM n = 4) := Lib.hid (by unfold szM; rw [if_neg (by omega), if_neg (by omega), if_pos (by omega)])
      obtain ⟨f, hf⟩ : ∃ f, f = amF (n - 48).toNat := ⟨_, rfl⟩
      rw [← hf] at HO
      have q1 := fn_neq f
      clear hf h c
      go_enter Try.func20, Try.ntmps20
      go_wp2_with (go_at_call 34; (with_reducible refine HO.out.mono ?_); rintro e w5 ⟨rfl, hq⟩; replace hq := hq.symm; subst hq)
      go_ret
      exact ⟨by rw [HE.out]; rfl, rfl⟩
    · have HO := Lib.hid (exchange_no n w (by omega))
      have HE : Hid (szM n = 0) := Lib.hid (by unfold szM; rw [if_neg (by omega), if_neg (by omega), if_neg (by omega)])
      have q1 := nil_neq
      clear h c
      go_enter Try.func20, Try.ntmps20
      go_wp2_with (go_at_call 34; (with_reducible refine HO.out.mono ?_); rintro e w5 ⟨rfl, hq⟩; replace hq := hq.symm; subst hq)
      go_ret
      exact ⟨by rw [HE.out]; rfl, rfl⟩
end Go.Proofs.Ytffmbpenhgbhnaa
