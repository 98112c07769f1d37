/- Layer decode's document: what a word says. -/
import Derived.Test.YtdloaeifiohefaaDoorDecP
import Derived.Test.YtdloaeifiohefaaDoorDec6
namespace Go.Proofs.YtdloaeifiohefaaDoor
open Go.RowKit Bm

theorem rop_size : (Tryd.prog.info? 28).map (·.size) = some 5 := by kernel_rfl
theorem res_rop2 {fn : Func} {i j : Tmp} (h : fn.results = #[.cell i 28, .tmp j]) (tmps : Array Value) {w : World} {g : Nat} {o : OpM} {v : Value} (hp : tmps.getD i undef = .pointer (some ⟨g, 0, none⟩)) (hq : tmps.getD j undef = v) (hA : At w g 28 (opC o)) :
    (results fn tmps).run Tryd.prog w = .ok (.tuple #[.agg (opC o).toArray, v]) w := by
  have hp' : tmps[i]?.getD undef = .pointer (some ⟨g, 0, none⟩) := by simpa using hp
  have hq' : tmps[j]?.getD undef = v := by simpa using hq
  simp [results, h, hp', hq', asAddr, run_loadVar_row (P := Tryd.prog) w g 28 28 (opC o).toArray (0, 0) _ hA Tryd.underlying28 rfl (by rw [rop_size]; simp [opC])]
set_option maxRecDepth 10000 in
theorem run_eq_rop (d : Nat) (a b c e a' b' c' e' i i' : Int) (w : World) :
    (Op.equalIn (d + 3) 28 (.agg #[.int .i64 a, .int .i64 b, .int .i64 c, .int .i64 e, .int .u32 i]) (.agg #[.int .i64 a', .int .i64 b', .int .i64 c', .int .i64 e', .int .u32 i'])).run Tryd.prog w =
      .ok (a == a' && (b == b' && (c == c' && (e == e' && i == i')))) w := by
  go_simp
  by_cases h0 : a = a' <;> by_cases h1 : b = b' <;> by_cases h2 : c = c' <;> by_cases h3 : e = e' <;> by_cases h4 : i = i' <;> simp [h0, h1, h2, h3, h4]
theorem run_eqR (x y : OpM) (w : World) : (Op.equalIn 10000 28 (.agg (opC x).toArray) (.agg (opC y).toArray)).run Tryd.prog w = .ok (decide (x = y)) w := by
  rw [opM_eq]; exact run_eq_rop 9997 _ _ _ _ _ _ _ _ _ _ w
theorem field5_lt' (w : BitVec 32) (a : Int) : U (fieldB w a 5) < 32 := by
  have h : U (fieldB w a 5) ≤ U (lowB 5) := by unfold U fieldB; rw [BitVec.toNat_and]; exact Int.ofNat_le.2 Nat.and_le_right
  have e : U (lowB 5) = 31 := by decide
  omega
theorem pat_mask : ∀ n, n < 70 → patO n &&& mkO (fmO n) = patO n := by decide +kernel
theorem same_row {n : Nat} (h : n < 70) (x : BitVec 32) : sameB x (patO n) (mkO (fmO n)) = rowB n x := by
  unfold sameB rowB
  rw [pat_mask n h]

set_option maxHeartbeats 2000000 in
theorem rword_any (x : BitVec 32) (w : World) :
    Calls Tryd.prog 11 #[.int .u32 (U x)] w fun e w' => e = .returned (.tuple #[.agg (opC (wordM x)).toArray, .bool (isM x)]) ∧ Below w.heap.size w w' := by
  obtain ⟨R, hR⟩ : ∃ R, R = w.heap.size := ⟨_, rfl⟩
  have HRV := Lib.hid hR
  have AR0 := Lib.hid (At.news w 28 (opC op0))
  have LB0 : Hid (∀ o, Below w.heap.size w (w.alloc o)) := Lib.hid fun o => (Below.refl _ w).alloc (Nat.le_refl _) _
  have hsz : ∀ o, (w.alloc o).heap.size = R + 1 := fun o => by rw [hR]; simp
  have HSZ := Lib.hid hsz
  rw [← hR] at AR0
  clear hsz
  go_enter Tryd.func11, Tryd.ntmps11
  go_wp2_with (go_at_call 20; (with_reducible refine (patterns_any _).mono ?_); rintro e w2 ⟨rfl, hA, hb⟩; rw [HSZ.out] at hA; have AP2 := Lib.hid hA; have AR2 := Lib.hid (at_keep AR0.out hb); have LB2 := Lib.hid ((LB0.out _).trans (hb.mono (LB0.out _).size)); clear hA hb)
  simp only [← hR]
  clear hR AR0 LB0 HSZ
  go_loopw [5] (fun z wr => ∃ k : Nat, k ≤ 69 ∧ z = .int .i64 k ∧ At wr R 28 (opC op0) ∧ At wr (R + 1) 22 (Us patT) ∧ Below w.heap.size w wr ∧ ∀ i : Nat, 1 ≤ i → i < k + 1 → rowB i x = false) (fun z _ => 70 - (intOf z).toNat)
  case atStart => exact ⟨0, by omega, rfl, AR2.out, AP2.out, LB2.out, fun i h1 h2 => by omega⟩
  case round =>
    obtain ⟨k, hk2, rfl, ha0, hp0, hb0, hno⟩ := hrel
    have HA0 := Lib.hid ha0
    have HP0 := Lib.hid hp0
    have HB0 := Lib.hid hb0
    have HNO := Lib.hid hno
    clear ha0 hp0 hb0 hno AR2 AP2 LB2
    by_cases h70 : k = 69
    · have HFN := Lib.hid (word_none (find_none (x := x) (fun i h1 h2 => HNO.out i h1 (by omega))))
      have g70 : ((k : Int) < 69) = False := eq_false (by omega)
      clear h70 hk2
      go_wp2_with (refine wpList_stm (xs := opC op0) (ys := opC op0) (pre := []) (post := []) _ _ rfl rfl rfl rfl rop_size rfl rfl (op_one _) rfl (by simp) HA0.out ?_; intro w2 hA2 hT2; rw [List.nil_append, List.append_nil] at hA2; have HA2 := Lib.hid hA2; have HB2 := Lib.hid (HB0.out.trans (hT2.below (B := w.heap.size) (fun k hk => by unfold Just at hk; have := HRV.out; omega) HB0.out.size)); clear hA2 hT2)
      refine bodyPost_ret (res_rop2 (o := op0) (v := .bool false) Tryd.results11 _ rfl rfl HA2.out) rfl ⟨?_, HB2.out⟩
      rw [HFN.out.1, HFN.out.2]
    · have hk : k < 69 := by omega
      have HK := Lib.hid hk
      have hf := fmO_lt (k + 1)
      have HPA : Hid ((Us patT)[k]? = some (.int .u32 (U (patO (k + 1))))) := Lib.hid (by rw [Us_get _ _ hk, patT_wd k hk])
      obtain ⟨f, hfe⟩ : ∃ f, f = fmO (k + 1) := ⟨_, rfl⟩
      have hfs : k < formS.size := by rw [formS_size]; exact hk
      have hfm : ((formS[k].toNat : Nat) : Int) = letO f := by rw [byN_eq hfs, forms_at k hk, hfe]
      have j1 : (k : Int) < (formS.size : Int) := by omega
      have k0 : (0 : Int) ≤ (k : Int) := by omega
      have k1 : (k : Int) < 69 := by omega
      have kw : IntKind.i64.wrap ((k : Int) + 1) = (k : Int) + 1 := by rw [IntKind.wrap_i64]; omega
      rw [← hfe] at hf
      have HFF := Lib.hid hf
      have HMK := Lib.hid (rmask_any hf)
      have HSM := Lib.hid (same_any x (patO (k + 1)) (mkO f))
      have TD : At wr.drew (R + 1) 22 (Us patT) := HP0.out.drew
      by_cases hr : rowB (k + 1) x = true
      · have HW := Lib.hid (word_of (n := k + 1) (by omega) hr)
        have HU : Hid (unpk (k + 1) x = ⟨(k : Int) + 1, if rdB f then U (fieldB x 7 5) else 0, if r1B f then U (fieldB x 15 5) else 0, if r2B f then U (fieldB x 20 5) else 0, rImm f x⟩) := Lib.hid (by rw [← runpk_is, hfe]; rfl)
        have hss : sameB x (patO (k + 1)) (mkO f) = true := by rw [hfe, same_row (by omega)]; exact hr
        rw [hss] at HSM
        have HIM := Lib.hid (rimm_any hf x)
        have HH0 : Hid (∀ W, Calls Tryd.prog 25 #[.string ⟨#[85, 74, 73, 82, 72, 65, 76, 70, 67]⟩, .int .u8 (letO f)] W fun e w' => e = .returned (.bool (rdB f)) ∧ w' = W) := Lib.hid (fun W => by rw [← has_rd f hf]; exact has_any strRd (by decide) (letO f) W)
        have HH1 : Hid (∀ W, Calls Tryd.prog 25 #[.string ⟨#[73, 66, 83, 82, 72, 65, 76, 70, 86, 67]⟩, .int .u8 (letO f)] W fun e w' => e = .returned (.bool (r1B f)) ∧ w' = W) := Lib.hid (fun W => by rw [← has_r1 f hf]; exact has_any strR1 (by decide) (letO f) W)
        have HH2 : Hid (∀ W, Calls Tryd.prog 25 #[.string ⟨#[66, 83, 82, 65, 86]⟩, .int .u8 (letO f)] W fun e w' => e = .returned (.bool (r2B f)) ∧ w' = W) := Lib.hid (fun W => by rw [← has_r2 f hf]; exact has_any strR2 (by decide) (letO f) W)
        have F0 := Lib.hid (fun W => rfield_any x 7 5 W (by omega) (by omega))
        have F1 := Lib.hid (fun W => rfield_any x 15 5 W (by omega) (by omega))
        have F2 := Lib.hid (fun W => rfield_any x 20 5 W (by omega) (by omega))
        have u0 : IntKind.i64.wrap (U (fieldB x 7 5)) = U (fieldB x 7 5) := by have := field5_lt' x 7; have := U_nonneg (fieldB x 7 5); rw [IntKind.wrap_i64]; omega
        have u1 : IntKind.i64.wrap (U (fieldB x 15 5)) = U (fieldB x 15 5) := by have := field5_lt' x 15; have := U_nonneg (fieldB x 15 5); rw [IntKind.wrap_i64]; omega
        have u2 : IntKind.i64.wrap (U (fieldB x 20 5)) = U (fieldB x 20 5) := by have := field5_lt' x 20; have := U_nonneg (fieldB x 20 5); rw [IntKind.wrap_i64]; omega
        clear hss hr hfe hf h70 hk hk2
        go_upto_region 6 with (go_at_call 21; (with_reducible refine (forms_any _).mono ?_); rintro e w5 ⟨rfl, rfl⟩)
        refine wp_region_held_drew (S := fun W => At W (R + 1) 22 (Us patT)) (by kernel_rfl) TD ?_
        intro S0
        replace S0 : At _ (R + 1) 22 (Us patT) := TD
        refine aT 0 (.int .u32 (U x)) rfl ?_; simp only [see1, see2, Act.put, see4, see5, see6]
        refine aT 1 (.slice (some ⟨R + 1, 0, none⟩) 69 69) rfl ?_; simp only [see1, see2, see3, Act.put, see4, see5, see6]
        refine aT 2 (.int .i64 k) rfl ?_; simp only [see1, see2, see3, Act.put, see4, see5, see6]
        refine aT 3 (.pointer (some ⟨R + 1, k, none⟩)) rfl ?_; simp only [see1, see2, see3, Act.put, see4, see5, see6]
        refine aT 4 (.int .u32 (U (patO (k + 1)))) rfl ?_ (h2 := fun W hS => by have c9 : W.cell? ⟨R + 1, k, none⟩ = some (.int .u32 (U (patO (k + 1)))) := (hS.cell k).trans HPA.out; go_simp; done); simp only [see1, see2, see3, Act.put, see4, see5, see6]
        refine aT 5 (.int .u8 (letO f)) rfl ?_; simp only [see1, see2, see3, Act.put, see4, see5, see6]
        refine wpAnyH_all (rs := [6]) (by kernel_rfl) (by simp) ?_
        intro i6 hi6
        obtain rfl : i6 = 6 := by simpa using hi6
        refine op_goes rfl (by rfl) ?_
        go_simp
        refine (HMK.out _).mono ?_
        rintro e w9 ⟨rfl, rfl⟩
        dsimp only
        refine ⟨S0, ?_⟩
        refine wpAnyH_all (rs := [7]) (by kernel_rfl) (by simp) ?_
        intro i7 hi7
        obtain rfl : i7 = 7 := by simpa using hi7
        refine op_goes rfl (by rfl) ?_
        go_simp
        refine (HSM.out _).mono ?_
        rintro e w9 ⟨rfl, rfl⟩
        dsimp only
        refine ⟨S0, ?_⟩
        refine aT 8 (.bool false) rfl ?_; simp only [see1, see2, see3, Act.put, see4, see5, see6]
        refine wpAnyH_done (by kernel_rfl) ?_ _
        clear TD S0
        obtain ⟨b0, hb0⟩ : ∃ b, b = rdB f := ⟨_, rfl⟩
        obtain ⟨b1, hb1⟩ : ∃ b, b = r1B f := ⟨_, rfl⟩
        obtain ⟨b2, hb2⟩ : ∃ b, b = r2B f := ⟨_, rfl⟩
        rw [← hb0, ← hb1, ← hb2] at HU
        rw [← hb0] at HH0
        rw [← hb1] at HH1
        rw [← hb2] at HH2
        clear hb0 hb1 hb2
        have HA1 := Lib.hid HA0.out.drew
        have HB1 := Lib.hid HB0.out.drew
        cases b0 <;> cases b1 <;> cases b2
        all_goals
          go_wp2_with (first
            | (go_at_call 24; (with_reducible refine (HIM.out _).mono ?_); rintro e w5 ⟨rfl, rfl⟩)
            | (go_at_call 25; (with_reducible refine (HH0.out _).mono ?_); rintro e w5 ⟨rfl, rfl⟩)
            | (go_at_call 25; (with_reducible refine (HH1.out _).mono ?_); rintro e w5 ⟨rfl, rfl⟩)
            | (go_at_call 25; (with_reducible refine (HH2.out _).mono ?_); rintro e w5 ⟨rfl, rfl⟩)
            | (go_at_call 26; (with_reducible refine (F0.out _).mono ?_); rintro e w5 ⟨rfl, rfl⟩)
            | (go_at_call 26; (with_reducible refine (F1.out _).mono ?_); rintro e w5 ⟨rfl, rfl⟩)
            | (go_at_call 26; (with_reducible refine (F2.out _).mono ?_); rintro e w5 ⟨rfl, rfl⟩)
            | (refine wpList_stm (xs := opC op0) (ys := opC (unpk (k + 1) x)) (pre := []) (post := []) _ _ rfl rfl rfl (by rw [HU.out]; rfl) rop_size rfl rfl (op_one _) rfl (by simp) (HA1.out.alloc _) ?_; intro w2 hA2 hT2; rw [List.nil_append, List.append_nil] at hA2; have HA2 := Lib.hid hA2; have HB2 := Lib.hid ((HB1.out.alloc HB1.out.size _).trans (hT2.below (B := w.heap.size) (fun k hk => by unfold Just at hk; have := HRV.out; omega) (HB1.out.alloc HB1.out.size _).size)); clear hA2 hT2))
          refine bodyPost_ret (res_rop2 (o := unpk (k + 1) x) (v := .bool true) Tryd.results11 _ rfl rfl HA2.out) rfl ⟨?_, HB2.out⟩
          rw [HW.out.1, HW.out.2]
      · have hr' : rowB (k + 1) x = false := by simpa using hr
        have hss : sameB x (patO (k + 1)) (mkO f) = false := by rw [hfe, same_row (by omega)]; exact hr'
        rw [hss] at HSM
        have HRR := Lib.hid hr'
        clear hss hfe hr hr' hf h70 hk hk2
        go_upto_region 6 with (go_at_call 21; (with_reducible refine (forms_any _).mono ?_); rintro e w5 ⟨rfl, rfl⟩)
        refine wp_region_held_drew (S := fun W => At W (R + 1) 22 (Us patT)) (by kernel_rfl) TD ?_
        intro S0
        replace S0 : At _ (R + 1) 22 (Us patT) := TD
        refine aT 0 (.int .u32 (U x)) rfl ?_; simp only [see1, see2, Act.put, see4, see5, see6]
        refine aT 1 (.slice (some ⟨R + 1, 0, none⟩) 69 69) rfl ?_; simp only [see1, see2, see3, Act.put, see4, see5, see6]
        refine aT 2 (.int .i64 k) rfl ?_; simp only [see1, see2, see3, Act.put, see4, see5, see6]
        refine aT 3 (.pointer (some ⟨R + 1, k, none⟩)) rfl ?_; simp only [see1, see2, see3, Act.put, see4, see5, see6]
        refine aT 4 (.int .u32 (U (patO (k + 1)))) rfl ?_ (h2 := fun W hS => by have c9 : W.cell? ⟨R + 1, k, none⟩ = some (.int .u32 (U (patO (k + 1)))) := (hS.cell k).trans HPA.out; go_simp; done); simp only [see1, see2, see3, Act.put, see4, see5, see6]
        refine aT 5 (.int .u8 (letO f)) rfl ?_; simp only [see1, see2, see3, Act.put, see4, see5, see6]
        refine wpAnyH_all (rs := [6]) (by kernel_rfl) (by simp) ?_
        intro i6 hi6
        obtain rfl : i6 = 6 := by simpa using hi6
        refine op_goes rfl (by rfl) ?_
        go_simp
        refine (HMK.out _).mono ?_
        rintro e w9 ⟨rfl, rfl⟩
        dsimp only
        refine ⟨S0, ?_⟩
        refine wpAnyH_all (rs := [7]) (by kernel_rfl) (by simp) ?_
        intro i7 hi7
        obtain rfl : i7 = 7 := by simpa using hi7
        refine op_goes rfl (by rfl) ?_
        go_simp
        refine (HSM.out _).mono ?_
        rintro e w9 ⟨rfl, rfl⟩
        dsimp only
        refine ⟨S0, ?_⟩
        refine aT 8 (.bool true) rfl ?_; simp only [see1, see2, see3, Act.put, see4, see5, see6]
        refine wpAnyH_done (by kernel_rfl) ?_ _
        have HA9 := Lib.hid HA0.out.drew
        have HP9 := Lib.hid HP0.out.drew
        have HB9 := Lib.hid HB0.out.drew
        clear TD S0
        go_wp2
        exact ⟨⟨k + 1, by have := HK.out; omega, by go_num, HA9.out, HP9.out, HB9.out, fun i h1 h2 => by
          by_cases e : i = k + 1
          · rw [e]; exact HRR.out
          · exact HNO.out i h1 (by omega)⟩, by simp [intOf]; omega⟩
end Go.Proofs.YtdloaeifiohefaaDoor
