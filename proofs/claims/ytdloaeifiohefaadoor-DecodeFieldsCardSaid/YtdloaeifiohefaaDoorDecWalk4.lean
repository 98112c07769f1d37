/- DecodeFields: registers are numbers below 32, numbers have their sign, and those of jumps and branches are even. -/
import Derived.Test.YtdloaeifiohefaaDoorDecV
import Derived.Test.YtdloaeifiohefaaDoorDecL
namespace Go.Proofs.YtdloaeifiohefaaDoor
open Go.RowKit Bm

theorem w32_im (y : BitVec 32) : IntKind.i32.wrap (U y) = y.toInt := by
  have h := toInt_U y
  have := U_nonneg y
  have := U_lt y
  have e : y.toInt = (if U y < 2147483648 then U y else U y - 4294967296) := by
    rw [BitVec.toInt_eq_toNat_cond]
    unfold U
    split <;> split <;> omega
  rw [e, IntKind.wrap_i32]
  split <;> omega
theorem tmod2 {t : Int} (h : t % 2 = 0) : t.tmod 2 = 0 := by
  have e : t = 2 * (t / 2) := by omega
  rw [e]
  exact Int.mul_tmod_right 2 _

set_option maxRecDepth 100000 in
set_option maxHeartbeats 1000000 in
theorem decodeFields_walk (a0 : Int) (b0 : (Lit.int .u32 a0).wf = true) (w : World) (hT : Tabs w) :
    Calls Tryd.prog 6 #[.int .u32 a0] w fun e w' => e = .returned (.bool true) ∧ Below w.heap.size w w' := by
  have bd := bounds_u32 b0
  obtain ⟨x, rfl⟩ := U_of bd.1 (by omega)
  have HT := Lib.hid hT
  have HX := Lib.hid (fun W (h : Tabs W) => word_any x W h)
  clear bd b0 hT
  by_cases hi : isM x = true
  · obtain ⟨n, hn, hr, e⟩ := is_some hi
    rw [hi] at HX
    have hf := fmO_lt n
    obtain ⟨r0, r1, r2⟩ := reg_lt hf x
    have u0 := U_nonneg (unF (fmO n) x 0)
    have u1 := U_nonneg (unF (fmO n) x 1)
    have u2 := U_nonneg (unF (fmO n) x 2)
    obtain ⟨im, him⟩ : ∃ im, im = signB (unF (fmO n) x 3) (sgO (fmO n)) := ⟨_, rfl⟩
    have eo : wordM x = ⟨n, U (unF (fmO n) x 0), U (unF (fmO n) x 1), U (unF (fmO n) x 2), im⟩ := by rw [e, him]; rfl
    obtain ⟨p0, hp0⟩ : ∃ p, p = U (unF (fmO n) x 0) := ⟨_, rfl⟩
    obtain ⟨p1, hp1⟩ : ∃ p, p = U (unF (fmO n) x 1) := ⟨_, rfl⟩
    obtain ⟨p2, hp2⟩ : ∃ p, p = U (unF (fmO n) x 2) := ⟨_, rfl⟩
    rw [← hp0, ← hp1, ← hp2] at eo
    rw [← hp0] at u0 r0
    rw [← hp1] at u1 r1
    rw [← hp2] at u2 r2
    rw [eo] at HX
    have J : Hid (fmO n = 1 → -1048576 ≤ im.toInt ∧ im.toInt < 1048576 ∧ im.toInt % 2 = 0) := Lib.hid (fun h => by rw [him, h]; exact imm_1 x)
    have BR : Hid (fmO n = 3 → -4096 ≤ im.toInt ∧ im.toInt < 4096 ∧ im.toInt % 2 = 0) := Lib.hid (fun h => by rw [him, h]; exact imm_3 x)
    have UU : Hid (fmO n = 0 → im = x &&& ~~~4095#32 ∧ U im % 4096 = 0) := Lib.hid (fun h => by rw [him, h]; exact imm_0 x)
    have NU : Hid (fmO n = 2 ∨ fmO n = 4 → -2048 ≤ im.toInt ∧ im.toInt < 2048) := Lib.hid (fun h => by
      rw [him]
      rcases h with h | h
      · rw [h]; exact imm_12 (unF 2 x 3)
      · rw [h]; exact imm_12 (unF 4 x 3))
    have LO := Lib.hid (fun h : 5 ≤ fmO n => imm_low hf h x)
    rw [← him] at LO
    have wt := w32_im im
    obtain ⟨t, ht⟩ : ∃ t, t = im.toInt := ⟨_, rfl⟩
    rw [← ht] at wt J BR NU
    have l0 : (p0 < 0) = False := eq_false (by omega)
    have l1 : (31 < p0) = False := eq_false (by omega)
    have l2 : (p1 < 0) = False := eq_false (by omega)
    have l3 : (31 < p1) = False := eq_false (by omega)
    have l4 : (p2 < 0) = False := eq_false (by omega)
    have l5 : (31 < p2) = False := eq_false (by omega)
    have l6 : ((n : Int) < 1) = False := eq_false (by omega)
    have l7 : ((69 : Int) < (n : Int)) = False := eq_false (by omega)
    have HN := Lib.hid hn
    clear e eo him hp0 hp1 hp2 hi hr hf ht r0 r1 r2 u0 u1 u2 hn
    go_enter Tryd.func6, Tryd.ntmps6
    go_upto_region 4 with (first
      | (go_at_call 9; (with_reducible refine (alive11_any _ HT.out).mono ?_); rintro e w1 ⟨rfl, hb⟩; have L1 := Lib.hid hb; clear hb)
      | (go_at_call 10; (with_reducible refine (HX.out _ (HT.out.below L1.out HT.out.two)).mono ?_); rintro e w2 ⟨rfl, hb⟩; have L2 := Lib.hid (L1.out.trans (hb.mono L1.out.size)); clear hb)
      | (refine wpList_newO 25 ⟨n, p0, p1, p2, im⟩ w2 _ _ rfl rfl rfl rfl rfl op_size ?_; intro w3 hA hb; have A3 := Lib.hid hA; have L3 := Lib.hid (L2.out.trans (hb.mono L2.out.size)); clear hA hb))
    have c0 : w3.cell? ⟨w2.heap.size, 0, none⟩ = some (.int .i64 n) := A3.out.cell 0
    have c1 : w3.cell? ⟨w2.heap.size, 1, none⟩ = some (.int .i64 p0) := A3.out.cell 1
    have c2 : w3.cell? ⟨w2.heap.size, 2, none⟩ = some (.int .i64 p1) := A3.out.cell 2
    have c3 : w3.cell? ⟨w2.heap.size, 3, none⟩ = some (.int .i64 p2) := A3.out.cell 3
    have c4 : w3.cell? ⟨w2.heap.size, 4, none⟩ = some (.int .u32 (U im)) := A3.out.cell 4
    have k : (3 ≤ n ∧ n ≤ 3) ∨ (5 ≤ n ∧ n ≤ 10) ∨ (1 ≤ n ∧ n ≤ 1) ∨ (2 ≤ n ∧ n ≤ 2) ∨ (25 ≤ n ∧ n ≤ 27) ∨ (4 ≤ n ∧ n ≤ 4) ∨ (11 ≤ n ∧ n ≤ 24) ∨ (28 ≤ n ∧ n ≤ 69) := by have := HN.out; omega
    have hn69 := HN.out
    rcases k with k | k | k | k | k | k | k | k
    · have e3 : ((n : Int) == 3) = true := by rw [beq_iff_eq]; omega
      have e1 : ((n : Int) == 1) = false := by rw [beq_eq_false_iff_ne]; omega
      have e2 : ((n : Int) == 2) = false := by rw [beq_eq_false_iff_ne]; omega
      have e4 : ((n : Int) == 4) = false := by rw [beq_eq_false_iff_ne]; omega
      have g5 : ((5 : Int) ≤ (n : Int)) = False := eq_false (by omega)
      have g25 : ((25 : Int) ≤ (n : Int)) = False := eq_false (by omega)
      have g11 : ((11 : Int) ≤ (n : Int)) = False := eq_false (by omega)
      have h10 : ((n : Int) ≤ 10) = True := eq_true (by omega)
      have h27 : ((n : Int) ≤ 27) = True := eq_true (by omega)
      have h24 : ((n : Int) ≤ 24) = True := eq_true (by omega)
      obtain ⟨t1, t2, t3⟩ := J.out (by rw [show n = 3 by omega]; rfl)
      have q1 := tmod2 t3
      clear t3
      clear k hn69
      go_wp2
      go_ret
      exact ⟨rfl, L3.out⟩
    · have e3 : ((n : Int) == 3) = false := by rw [beq_eq_false_iff_ne]; omega
      have e1 : ((n : Int) == 1) = false := by rw [beq_eq_false_iff_ne]; omega
      have e2 : ((n : Int) == 2) = false := by rw [beq_eq_false_iff_ne]; omega
      have e4 : ((n : Int) == 4) = false := by rw [beq_eq_false_iff_ne]; omega
      have g5 : ((5 : Int) ≤ (n : Int)) = True := eq_true (by omega)
      have g25 : ((25 : Int) ≤ (n : Int)) = False := eq_false (by omega)
      have g11 : ((11 : Int) ≤ (n : Int)) = False := eq_false (by omega)
      have h10 : ((n : Int) ≤ 10) = True := eq_true (by omega)
      have h27 : ((n : Int) ≤ 27) = True := eq_true (by omega)
      have h24 : ((n : Int) ≤ 24) = True := eq_true (by omega)
      obtain ⟨t1, t2, t3⟩ := BR.out (fm_br n (by omega) k.1 k.2)
      have q1 := tmod2 t3
      clear t3
      clear k hn69
      go_wp2
      go_ret
      exact ⟨rfl, L3.out⟩
    · have e3 : ((n : Int) == 3) = false := by rw [beq_eq_false_iff_ne]; omega
      have e1 : ((n : Int) == 1) = true := by rw [beq_iff_eq]; omega
      have e2 : ((n : Int) == 2) = false := by rw [beq_eq_false_iff_ne]; omega
      have e4 : ((n : Int) == 4) = false := by rw [beq_eq_false_iff_ne]; omega
      have g5 : ((5 : Int) ≤ (n : Int)) = False := eq_false (by omega)
      have g25 : ((25 : Int) ≤ (n : Int)) = False := eq_false (by omega)
      have g11 : ((11 : Int) ≤ (n : Int)) = False := eq_false (by omega)
      have h10 : ((n : Int) ≤ 10) = True := eq_true (by omega)
      have h27 : ((n : Int) ≤ 27) = True := eq_true (by omega)
      have h24 : ((n : Int) ≤ 24) = True := eq_true (by omega)
      obtain ⟨t1, t2⟩ := UU.out (fm_up n (by omega) (by omega))
      have q1 : bits .andNot .u32 (U x) 4095 = U im := by rw [show (4095 : Int) = U 4095#32 from rfl, U_andNot, t1]
      have q3 : (U im).tmod 4096 = 0 := by
        have e : U im = 4096 * (U im / 4096) := by omega
        rw [e]
        exact Int.mul_tmod_right 4096 _
      clear t1
      clear k hn69
      go_wp2
      go_ret
      exact ⟨rfl, L3.out⟩
    · have e3 : ((n : Int) == 3) = false := by rw [beq_eq_false_iff_ne]; omega
      have e1 : ((n : Int) == 1) = false := by rw [beq_eq_false_iff_ne]; omega
      have e2 : ((n : Int) == 2) = true := by rw [beq_iff_eq]; omega
      have e4 : ((n : Int) == 4) = false := by rw [beq_eq_false_iff_ne]; omega
      have g5 : ((5 : Int) ≤ (n : Int)) = False := eq_false (by omega)
      have g25 : ((25 : Int) ≤ (n : Int)) = False := eq_false (by omega)
      have g11 : ((11 : Int) ≤ (n : Int)) = False := eq_false (by omega)
      have h10 : ((n : Int) ≤ 10) = True := eq_true (by omega)
      have h27 : ((n : Int) ≤ 27) = True := eq_true (by omega)
      have h24 : ((n : Int) ≤ 24) = True := eq_true (by omega)
      obtain ⟨t1, t2⟩ := UU.out (fm_up n (by omega) (by omega))
      have q1 : bits .andNot .u32 (U x) 4095 = U im := by rw [show (4095 : Int) = U 4095#32 from rfl, U_andNot, t1]
      have q3 : (U im).tmod 4096 = 0 := by
        have e : U im = 4096 * (U im / 4096) := by omega
        rw [e]
        exact Int.mul_tmod_right 4096 _
      clear t1
      clear k hn69
      go_wp2
      go_ret
      exact ⟨rfl, L3.out⟩
    · have e3 : ((n : Int) == 3) = false := by rw [beq_eq_false_iff_ne]; omega
      have e1 : ((n : Int) == 1) = false := by rw [beq_eq_false_iff_ne]; omega
      have e2 : ((n : Int) == 2) = false := by rw [beq_eq_false_iff_ne]; omega
      have e4 : ((n : Int) == 4) = false := by rw [beq_eq_false_iff_ne]; omega
      have g5 : ((5 : Int) ≤ (n : Int)) = True := eq_true (by omega)
      have g25 : ((25 : Int) ≤ (n : Int)) = True := eq_true (by omega)
      have g11 : ((11 : Int) ≤ (n : Int)) = True := eq_true (by omega)
      have h10 : ((n : Int) ≤ 10) = False := eq_false (by omega)
      have h27 : ((n : Int) ≤ 27) = True := eq_true (by omega)
      have h24 : ((n : Int) ≤ 24) = False := eq_false (by omega)
      have t1 := (LO.out (by rw [fm_sh n (by omega) k.1 k.2]; omega)).2 (fm_sh n (by omega) k.1 k.2)
      clear k hn69
      go_wp2
      go_ret
      exact ⟨rfl, L3.out⟩
    · have e3 : ((n : Int) == 3) = false := by rw [beq_eq_false_iff_ne]; omega
      have e1 : ((n : Int) == 1) = false := by rw [beq_eq_false_iff_ne]; omega
      have e2 : ((n : Int) == 2) = false := by rw [beq_eq_false_iff_ne]; omega
      have e4 : ((n : Int) == 4) = true := by rw [beq_iff_eq]; omega
      have g5 : ((5 : Int) ≤ (n : Int)) = False := eq_false (by omega)
      have g25 : ((25 : Int) ≤ (n : Int)) = False := eq_false (by omega)
      have g11 : ((11 : Int) ≤ (n : Int)) = False := eq_false (by omega)
      have h10 : ((n : Int) ≤ 10) = True := eq_true (by omega)
      have h27 : ((n : Int) ≤ 27) = True := eq_true (by omega)
      have h24 : ((n : Int) ≤ 24) = True := eq_true (by omega)
      obtain ⟨t1, t2⟩ := NU.out (fm_nu n (by omega) (.inl (by omega)))
      clear k hn69
      go_wp2
      go_ret
      exact ⟨rfl, L3.out⟩
    · have e3 : ((n : Int) == 3) = false := by rw [beq_eq_false_iff_ne]; omega
      have e1 : ((n : Int) == 1) = false := by rw [beq_eq_false_iff_ne]; omega
      have e2 : ((n : Int) == 2) = false := by rw [beq_eq_false_iff_ne]; omega
      have e4 : ((n : Int) == 4) = false := by rw [beq_eq_false_iff_ne]; omega
      have g5 : ((5 : Int) ≤ (n : Int)) = True := eq_true (by omega)
      have g25 : ((25 : Int) ≤ (n : Int)) = False := eq_false (by omega)
      have g11 : ((11 : Int) ≤ (n : Int)) = True := eq_true (by omega)
      have h10 : ((n : Int) ≤ 10) = False := eq_false (by omega)
      have h27 : ((n : Int) ≤ 27) = True := eq_true (by omega)
      have h24 : ((n : Int) ≤ 24) = True := eq_true (by omega)
      obtain ⟨t1, t2⟩ := NU.out (fm_nu n (by omega) (.inr k))
      clear k hn69
      go_wp2
      go_ret
      exact ⟨rfl, L3.out⟩
    · have e3 : ((n : Int) == 3) = false := by rw [beq_eq_false_iff_ne]; omega
      have e1 : ((n : Int) == 1) = false := by rw [beq_eq_false_iff_ne]; omega
      have e2 : ((n : Int) == 2) = false := by rw [beq_eq_false_iff_ne]; omega
      have e4 : ((n : Int) == 4) = false := by rw [beq_eq_false_iff_ne]; omega
      have g5 : ((5 : Int) ≤ (n : Int)) = True := eq_true (by omega)
      have g25 : ((25 : Int) ≤ (n : Int)) = True := eq_true (by omega)
      have g11 : ((11 : Int) ≤ (n : Int)) = True := eq_true (by omega)
      have h10 : ((n : Int) ≤ 10) = False := eq_false (by omega)
      have h27 : ((n : Int) ≤ 27) = False := eq_false (by omega)
      have h24 : ((n : Int) ≤ 24) = False := eq_false (by omega)
      have t1 := (LO.out (fm_lo n (by omega) k.1)).1
      clear k hn69
      go_wp2
      go_ret
      exact ⟨rfl, L3.out⟩
  · have hf : isM x = false := by simpa using hi
    rw [hf] at HX
    clear hi hf
    go_enter Tryd.func6, Tryd.ntmps6
    go_wp2_with (first
      | (go_at_call 9; (with_reducible refine (alive11_any _ HT.out).mono ?_); rintro e w1 ⟨rfl, hb⟩; have L1 := Lib.hid hb; clear hb)
      | (go_at_call 10; (with_reducible refine (HX.out _ (HT.out.below L1.out HT.out.two)).mono ?_); rintro e w2 ⟨rfl, hb⟩; have L2 := Lib.hid (L1.out.trans (hb.mono L1.out.size)); clear hb)
      | (refine wpList_newO 25 (wordM x) w2 _ _ rfl rfl rfl rfl rfl op_size ?_; intro w3 hA hb; have L3 := Lib.hid (L2.out.trans (hb.mono L2.out.size)); clear hA hb))
    go_ret
    exact ⟨rfl, L3.out⟩
end Go.Proofs.YtdloaeifiohefaaDoor
