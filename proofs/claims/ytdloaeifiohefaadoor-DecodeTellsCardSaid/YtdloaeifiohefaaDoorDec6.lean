/- Layer decode's program: what a word says, and the word that says an op. -/
import Derived.Test.YtdloaeifiohefaaDoorDec5
namespace Go.Proofs.YtdloaeifiohefaaDoor
open Go.RowKit Bm

theorem find_none {x : BitVec 32} (h : ∀ i : Nat, 1 ≤ i → i < 70 → rowB i x = false) : findW x = none := by
  unfold findW
  rw [List.find?_eq_none]
  intro n hn
  have := mem_names.1 hn
  rw [h n (by omega) (by omega)]
  simp

set_option maxHeartbeats 1000000 in
theorem word_any (x : BitVec 32) (w : World) (hT : Tabs w) :
    Calls Tryd.prog 10 #[.int .u32 (U x)] w fun e w' => e = .returned (.tuple #[.agg (opC (wordM x)).toArray, .bool (isM x)]) ∧ Below w.heap.size w w' := by
  have HT := Lib.hid hT
  obtain ⟨R, hR⟩ : ∃ R, R = w.heap.size := ⟨_, rfl⟩
  have HRV := Lib.hid hR
  have AR0 := Lib.hid (At.news w 25 (opC op0))
  have LB0 : Hid (∀ o, Below w.heap.size w (w.alloc o)) := Lib.hid fun o => (Below.refl _ w).alloc (Nat.le_refl _) _
  rw [← hR] at AR0
  clear hT
  go_enter Tryd.func10, Tryd.ntmps10
  go_wp2
  simp only [← hR]
  clear hR
  go_loopw [4] (fun z wr => ∃ k : Nat, 1 ≤ k ∧ k ≤ 70 ∧ z = .int .i64 k ∧ At wr R 25 (opC op0) ∧ Below w.heap.size w wr ∧ ∀ i : Nat, 1 ≤ i → i < k → rowB i x = false) (fun z _ => 70 - (intOf z).toNat)
  case atStart => exact ⟨1, by omega, by omega, rfl, AR0.out, LB0.out _, fun i h1 h2 => by omega⟩
  case round =>
    obtain ⟨k, hk1, hk2, rfl, ha0, hb0, hno⟩ := hrel
    have HA0 := Lib.hid ha0
    have HB0 := Lib.hid hb0
    have HNO := Lib.hid hno
    clear ha0 hb0 hno AR0 LB0
    by_cases h70 : k = 70
    · have HFN := Lib.hid (word_none (find_none (x := x) (fun i h1 h2 => HNO.out i h1 (by omega))))
      have g70 : ((k : Int) ≤ 69) = False := eq_false (by omega)
      clear h70 hk1 hk2
      go_wp2_with (refine wpList_stm (xs := opC op0) (ys := opC op0) (pre := []) (post := []) _ _ rfl rfl rfl rfl op_size rfl rfl (op_one _) rfl (by simp) HA0.out ?_; intro w2 hA2 hT2; rw [List.nil_append, List.append_nil] at hA2; have HA2 := Lib.hid hA2; have HB2 := Lib.hid (HB0.out.trans (hT2.below (B := w.heap.size) (fun k hk => by unfold Just at hk; have := HRV.out; omega) HB0.out.size)); clear hA2 hT2)
      refine bodyPost_ret (res_op2 (o := op0) (v := .bool false) Tryd.results10 _ rfl rfl HA2.out) rfl ⟨?_, HB2.out⟩
      rw [HFN.out.1, HFN.out.2]
    · have hk : 1 ≤ k ∧ k ≤ 69 := by omega
      have HKK := Lib.hid hk
      have hf := fmO_lt k
      have HF := Lib.hid (formatOf_any hk)
      have HUP := Lib.hid (fun W (hW : Tabs W) => unpack_any hk x W hW)
      have K70 : Hid (k < 70) := Lib.hid (by omega)
      have k0 : (0 : Int) ≤ (k : Int) := by omega
      have k1 : (k : Int) < 70 := by omega
      have k2 : (k : Int) ≤ 69 := by omega
      obtain ⟨f, hfe⟩ : ∃ f, f = fmO k := ⟨_, rfl⟩
      rw [← hfe] at HF hf
      have HFF := Lib.hid hf
      have f0 : (0 : Int) ≤ (f : Int) := by omega
      have f1 : (f : Int) < 13 := by omega
      have TD : Tabs wr.drew := (HT.out.below HB0.out HT.out.two).drew
      have LT : ((k : Int) ≤ 69) = True := eq_true (by omega)
      by_cases hr : rowB k x = true
      · have hq : (U (x &&& mkO f) == U (patO k)) = true := by rw [U_beq, hfe]; exact hr
        have HW := Lib.hid (word_of hk hr)
        clear hfe hr hf h70 hk hk1 hk2
        go_upto_region 4 with (fail)
        refine wp_region_held_drew (S := fun W => Tabs W) (by kernel_rfl) TD ?_
        intro S0
        replace S0 : Tabs wr.drew := TD
        refine aT 0 (.int .u32 (U x)) rfl ?_; simp only [see1, see2, Act.put, see4, see5, see6]
        refine aT 1 (.int .i64 k) rfl ?_; simp only [see1, see2, see3, Act.put, see4, see5, see6]
        refine aT 7 (.int .i64 k) rfl ?_; simp only [see1, see2, see3, Act.put, see4, see5, see6]
        refine aT 8 (.pointer (some ⟨1, k, none⟩)) rfl ?_; simp only [see1, see2, see3, Act.put, see4, see5, see6]
        refine aT 9 (.int .u32 (U (patO k))) rfl ?_ (h2 := fun W hS => by have c9 : W.cell? ⟨1, k, none⟩ = some (.int .u32 (U (patO k))) := hS.pt k K70.out; go_simp; done); simp only [see1, see2, see3, Act.put, see4, see5, see6]
        refine wpAnyH_all (rs := [2]) (by kernel_rfl) (by simp) ?_
        intro i2 hi2
        obtain rfl : i2 = 2 := by simpa using hi2
        refine op_goes rfl (by rfl) ?_
        go_simp
        refine (HF.out wr.drew).mono ?_
        rintro e w9 ⟨rfl, rfl⟩
        dsimp only
        refine ⟨S0, ?_⟩
        refine aT 3 (.pointer (some ⟨0, f * 2, none⟩)) rfl ?_; simp only [see1, see2, see3, Act.put, see4, see5, see6]
        refine aT 4 (.pointer (some ⟨0, f * 2, none⟩)) rfl ?_; simp only [see1, see2, see3, Act.put, see4, see5, see6]
        refine aT 5 (.int .u32 (U (mkO f))) rfl ?_ (h2 := fun W hS => by have c9 : W.cell? ⟨0, f * 2, none⟩ = some (.int .u32 (U (mkO f))) := (by rw [Nat.mul_comm f 2]; exact (hS.fm f HFF.out).1); go_simp; done); simp only [see1, see2, see3, Act.put, see4, see5, see6]
        refine aT 6 (.int .u32 (U (x &&& mkO f))) rfl ?_; simp only [see1, see2, see3, Act.put, see4, see5, see6]
        refine aT 10 (.bool true) rfl ?_; simp only [see1, see2, see3, Act.put, see4, see5, see6]
        refine wpAnyH_done (by kernel_rfl) ?_ _
        go_wp2_with (first
          | (go_at_call 19; (with_reducible refine (HUP.out _ TD).mono ?_); rintro e w5 ⟨rfl, hb5⟩; have HA5 := Lib.hid (at_keep HA0.out.drew hb5); have HB5 := Lib.hid (HB0.out.drew.trans (hb5.mono HB0.out.drew.size)); clear hb5)
          | (refine wpList_stm (xs := opC op0) (ys := opC (unpk k x)) (pre := []) (post := []) _ _ rfl rfl rfl rfl op_size rfl rfl (op_one _) rfl (by simp) HA5.out ?_; intro w2 hA2 hT2; rw [List.nil_append, List.append_nil] at hA2; have HA2 := Lib.hid hA2; have HB2 := Lib.hid (HB5.out.trans (hT2.below (B := w.heap.size) (fun k hk => by unfold Just at hk; have := HRV.out; omega) HB5.out.size)); clear hA2 hT2))
        refine bodyPost_ret (res_op2 (o := unpk k x) (v := .bool true) Tryd.results10 _ rfl rfl HA2.out) rfl ⟨?_, HB2.out⟩
        rw [HW.out.1, HW.out.2]
      · have hr' : rowB k x = false := by simpa using hr
        have hq : (U (x &&& mkO f) == U (patO k)) = false := by rw [U_beq, hfe]; exact hr'
        have HRR := Lib.hid hr'
        clear hfe hr hr' hf h70 hk hk1 hk2
        go_upto_region 4 with (fail)
        refine wp_region_held_drew (S := fun W => Tabs W) (by kernel_rfl) TD ?_
        intro S0
        replace S0 : Tabs wr.drew := TD
        refine aT 0 (.int .u32 (U x)) rfl ?_; simp only [see1, see2, Act.put, see4, see5, see6]
        refine aT 1 (.int .i64 k) rfl ?_; simp only [see1, see2, see3, Act.put, see4, see5, see6]
        refine aT 7 (.int .i64 k) rfl ?_; simp only [see1, see2, see3, Act.put, see4, see5, see6]
        refine aT 8 (.pointer (some ⟨1, k, none⟩)) rfl ?_; simp only [see1, see2, see3, Act.put, see4, see5, see6]
        refine aT 9 (.int .u32 (U (patO k))) rfl ?_ (h2 := fun W hS => by have c9 : W.cell? ⟨1, k, none⟩ = some (.int .u32 (U (patO k))) := hS.pt k K70.out; go_simp; done); simp only [see1, see2, see3, Act.put, see4, see5, see6]
        refine wpAnyH_all (rs := [2]) (by kernel_rfl) (by simp) ?_
        intro i2 hi2
        obtain rfl : i2 = 2 := by simpa using hi2
        refine op_goes rfl (by rfl) ?_
        go_simp
        refine (HF.out wr.drew).mono ?_
        rintro e w9 ⟨rfl, rfl⟩
        dsimp only
        refine ⟨S0, ?_⟩
        refine aT 3 (.pointer (some ⟨0, f * 2, none⟩)) rfl ?_; simp only [see1, see2, see3, Act.put, see4, see5, see6]
        refine aT 4 (.pointer (some ⟨0, f * 2, none⟩)) rfl ?_; simp only [see1, see2, see3, Act.put, see4, see5, see6]
        refine aT 5 (.int .u32 (U (mkO f))) rfl ?_ (h2 := fun W hS => by have c9 : W.cell? ⟨0, f * 2, none⟩ = some (.int .u32 (U (mkO f))) := (by rw [Nat.mul_comm f 2]; exact (hS.fm f HFF.out).1); go_simp; done); simp only [see1, see2, see3, Act.put, see4, see5, see6]
        refine aT 6 (.int .u32 (U (x &&& mkO f))) rfl ?_; simp only [see1, see2, see3, Act.put, see4, see5, see6]
        refine aT 10 (.bool false) rfl ?_; simp only [see1, see2, see3, Act.put, see4, see5, see6]
        refine wpAnyH_done (by kernel_rfl) ?_ _
        have HA9 := Lib.hid HA0.out.drew
        have HB9 := Lib.hid HB0.out.drew
        have w1 : IntKind.i64.wrap ((k : Int) + 1) = (k : Int) + 1 := by rw [IntKind.wrap_i64]; omega
        clear TD S0
        go_wp2
        exact ⟨⟨k + 1, by omega, by have := K70.out; omega, by go_num, HA9.out, HB9.out, fun i h1 h2 => by
          by_cases e : i = k
          · rw [e]; exact HRR.out
          · exact HNO.out i h1 (by omega)⟩, by simp [intOf]; omega⟩
end Go.Proofs.YtdloaeifiohefaaDoor
