/- DecodeRows: each name has a word, with whatever registers it has; a word of another name is another one. -/
import Derived.Test.YtdloaeifiohefaaDoorDecWalk5b
namespace Go.Proofs.YtdloaeifiohefaaDoor
open Go.RowKit Bm

set_option maxRecDepth 100000 in
set_option maxHeartbeats 4000000 in
theorem decodeRows_walk (a0 : Int) (b0 : (Lit.int .u8 a0).wf = true) (a1 : Int) (b1 : (Lit.int .u8 a1).wf = true) (z0 z1 z2 : Int) (y0 : (Lit.int .u8 z0).wf = true) (y1 : (Lit.int .u8 z1).wf = true) (y2 : (Lit.int .u8 z2).wf = true) (w : World) (hT : Tabs w) :
    Calls Tryd.prog 7 #[.int .u8 a0, .int .u8 a1, .agg #[.int .u8 z0, .int .u8 z1, .int .u8 z2]] w fun e w' => e = .returned (.bool true) ∧ Below w.heap.size w w' := by
  have HT := Lib.hid hT
  have u0 := bounds_u8 b0
  obtain ⟨B, hB⟩ : ∃ B, B = w.heap.size := ⟨_, rfl⟩
  have HBV := Lib.hid hB
  have AB0 := Lib.hid (At.news w 38 [.int .u8 z0, .int .u8 z1, .int .u8 z2])
  have LB0 : Hid (∀ o, Below w.heap.size w (w.alloc o)) := Lib.hid fun o => (Below.refl _ w).alloc (Nat.le_refl _) _
  rw [← hB] at AB0
  have bw : w.heap.size = B := hB.symm
  have HC0 := Lib.hid (fun W (h : Tabs W) hA => first_any a0 z0 z1 z2 (bounds_u8 b0) (bounds_u8 y0) (bounds_u8 y1) (bounds_u8 y2) B W h hA)
  have HC1 := Lib.hid (fun W (h : Tabs W) hA => first_any a1 z0 z1 z2 (bounds_u8 b1) (bounds_u8 y0) (bounds_u8 y1) (bounds_u8 y2) B W h hA)
  obtain ⟨k, hk⟩ : ∃ k : Nat, a0 % 69 = (k : Int) := ⟨(a0 % 69).toNat, by omega⟩
  have HWS := Lib.hid (fun W (h : Tabs W) => writes11_any (k := k) (by omega) W h)
  rw [hk] at HC0
  clear hT b0 b1 y0 y1 y2 u0 hB hk
  go_enter Tryd.func7, Tryd.ntmps7
  go_upto_region 5 with (first
    | (go_at_call 9; (with_reducible refine (alive11_any _ (HT.out.below (LB0.out _) HT.out.two)).mono ?_); rintro e w1 ⟨rfl, hb⟩; have A1 := Lib.hid (at_keep AB0.out hb); have L1 := Lib.hid ((LB0.out _).trans (hb.mono (LB0.out _).size)); clear hb)
    | (go_at_call 16; (with_reducible refine (HC0.out _ (HT.out.below L1.out HT.out.two) A1.out).mono ?_); rintro e w2 ⟨o, rfl, ho, hno, hb⟩; have HO := Lib.hid ho; have HNO := Lib.hid hno; have A2 := Lib.hid (at_keep A1.out hb); have L2 := Lib.hid (L1.out.trans (hb.mono L1.out.size)); clear hb ho hno)
    | (refine wpList_newO 25 o w2 _ _ rfl rfl rfl rfl rfl op_size ?_; intro w3 hA hb; have P3 := Lib.hid hA; have A3 := Lib.hid (at_keep A2.out hb); have L3 := Lib.hid (L2.out.trans (hb.mono L2.out.size)); clear hA hb))
  go_upto_region 6 with (first
    | (go_at_call 16; (with_reducible refine (HC1.out _ (HT.out.below L3.out HT.out.two) A3.out).mono ?_); rintro e w4 ⟨p, rfl, hp, hnp, hb⟩; have HP := Lib.hid hp; have P4 := Lib.hid (at_keep P3.out hb); have L4 := Lib.hid (L3.out.trans (hb.mono L3.out.size)); clear hb hp hnp)
    | (refine wpList_newO 25 p w4 _ _ rfl rfl rfl rfl rfl op_size ?_; intro w5 hA hb; have Q5 := Lib.hid hA; have P5 := Lib.hid (at_keep P4.out hb); have L5 := Lib.hid (L4.out.trans (hb.mono L4.out.size)); clear hA hb))
  obtain ⟨D, hD⟩ : ∃ D, D = decide (o = p) := ⟨_, rfl⟩
  have hd : (U (encM o) == U (encM p)) = D := by rw [U_beq, enc_inj HO.out HP.out, hD]
  have hq : ∀ W : World, (Op.equalIn 10000 25 (.agg (opC o).toArray) (.agg (opC p).toArray)).run Tryd.prog W = .ok D W := fun W => by rw [run_eqO, hD]
  have FW := Lib.hid (fun (h : o.name ≠ 57) (h2 : o.rd ≠ 0) => rd_has HO.out h h2)
  obtain ⟨m, hm⟩ : ∃ m, m = encM o := ⟨_, rfl⟩
  obtain ⟨m', hm'⟩ : ∃ m, m = encM p := ⟨_, rfl⟩
  rw [← hm, ← hm'] at hd
  rw [← hm, ← hm']
  have HWR := Lib.hid (fun W => writes_any o.name W)
  rw [← HNO.out] at HWS
  obtain ⟨nm, hnm⟩ : ∃ n, n = o.name := ⟨_, rfl⟩
  obtain ⟨rd, hrd⟩ : ∃ n, n = o.rd := ⟨_, rfl⟩
  rw [← hnm] at HWS HWR FW
  rw [← hrd] at FW
  obtain ⟨t, ht⟩ : ∃ t, t = wrB nm := ⟨_, rfl⟩
  rw [← ht] at HWS HWR FW
  obtain ⟨b9, h9⟩ : ∃ b, b = w2.heap.size := ⟨_, rfl⟩
  obtain ⟨b12, h12⟩ : ∃ b, b = w4.heap.size := ⟨_, rfl⟩
  rw [← h9] at P5
  rw [← h12] at Q5
  simp only [← h9, ← h12]
  have C0 : Hid (∀ W, At W b9 25 (opC o) → W.cell? ⟨b9, 0, none⟩ = some (.int .i64 nm)) := Lib.hid (fun W h => by rw [hnm]; exact h.cell 0)
  have C1 : Hid (∀ W, At W b9 25 (opC o) → W.cell? ⟨b9, 1, none⟩ = some (.int .i64 rd)) := Lib.hid (fun W h => by rw [hrd]; exact h.cell 1)
  clear hD hm hm' hnm hrd ht h9 h12
  have SD : At w5.drew b9 25 (opC o) ∧ At w5.drew b12 25 (opC p) := ⟨P5.out.drew, Q5.out.drew⟩
  have LD := Lib.hid L5.out.drew
  by_cases h57 : nm = 57
  · have q57 : (nm != 57) = false := by rw [h57]; rfl
    clear h57 FW
    refine wp_region_held_drew (S := fun W => At W b9 25 (opC o) ∧ At W b12 25 (opC p)) (by kernel_rfl) SD ?_
    intro S0
    replace S0 : At w5.drew b9 25 (opC o) ∧ At w5.drew b12 25 (opC p) := SD
    refine aT 0 (.bool true) rfl ?_; simp only [see1, see2, Act.put, see4, see5, see6]
    refine aT 1 (.bool true) rfl ?_; simp only [see1, see2, see3, Act.put, see4, see5, see6]
    refine aT 2 (.bool true) rfl ?_; simp only [see1, see2, see3, Act.put, see4, see5, see6]
    refine aT 3 (.bool true) rfl ?_; simp only [see1, see2, see3, Act.put, see4, see5, see6]
    refine aT 4 (.bool true) rfl ?_; simp only [see1, see2, see3, Act.put, see4, see5, see6]
    refine aT 5 (.int .u32 (U m)) rfl ?_; simp only [see1, see2, see3, Act.put, see4, see5, see6]
    refine aT 6 (.int .u32 (U m')) rfl ?_; simp only [see1, see2, see3, Act.put, see4, see5, see6]
    refine aT 7 (.bool D) rfl ?_; simp only [see1, see2, see3, Act.put, see4, see5, see6]
    refine aT 8 (.agg (opC o).toArray) rfl ?_ (h2 := fun W hS => (load_is _ _ _ _ _ _ _ _ W).trans (load_at Tryd.underlying25 rfl op_size hS.1.rng0 rfl)); simp only [see1, see2, see3, Act.put, see4, see5, see6]
    refine aT 9 (.agg (opC p).toArray) rfl ?_ (h2 := fun W hS => (load_is _ _ _ _ _ _ _ _ W).trans (load_at Tryd.underlying25 rfl op_size hS.2.rng0 rfl)); simp only [see1, see2, see3, Act.put, see4, see5, see6]
    refine aT 10 (.bool D) rfl ?_; simp only [see1, see2, see3, Act.put, see4, see5, see6]
    refine aT 11 (.bool true) rfl ?_; simp only [see1, see2, see3, Act.put, see4, see5, see6]
    refine aT 12 (.bool true) rfl ?_; simp only [see1, see2, see3, Act.put, see4, see5, see6]
    refine aT 13 (.bool true) rfl ?_; simp only [see1, see2, see3, Act.put, see4, see5, see6]
    refine aT 14 (.pointer (some ⟨b9, 0, none⟩)) rfl ?_; simp only [see1, see2, see3, Act.put, see4, see5, see6]
    refine aT 15 (.int .i64 nm) rfl ?_ (h2 := fun W hS => by have c9 : W.cell? ⟨b9, 0, none⟩ = some (.int .i64 nm) := C0.out W hS.1; go_simp; done); simp only [see1, see2, see3, Act.put, see4, see5, see6]
    refine aT 17 (.pointer (some ⟨b9, 0, none⟩)) rfl ?_; simp only [see1, see2, see3, Act.put, see4, see5, see6]
    refine aT 18 (.int .i64 nm) rfl ?_ (h2 := fun W hS => by have c9 : W.cell? ⟨b9, 0, none⟩ = some (.int .i64 nm) := C0.out W hS.1; go_simp; done); simp only [see1, see2, see3, Act.put, see4, see5, see6]
    refine aT 19 (.bool false) rfl ?_; simp only [see1, see2, see3, Act.put, see4, see5, see6]
    refine wpAnyH_all (rs := [16]) (by kernel_rfl) (by simp) ?_
    intro i16 hi16
    obtain rfl : i16 = 16 := by simpa using hi16
    refine op_goes rfl (by rfl) ?_
    go_simp
    refine (HWR.out _).mono ?_
    rintro e w6 ⟨rfl, hb⟩
    have S1 : At w6 b9 25 (opC o) ∧ At w6 b12 25 (opC p) := ⟨at_keep S0.1 hb, at_keep S0.2 hb⟩
    have L6 := Lib.hid (LD.out.trans (hb.mono LD.out.size))
    clear hb
    dsimp only
    refine ⟨S1, ?_⟩
    refine aT 20 (.bool false) rfl ?_; simp only [see1, see2, see3, Act.put, see4, see5, see6]
    refine aU 21 rfl ?_; simp only [see1, see2, see3, Act.put, see4, see5, see6]
    refine aU 22 rfl ?_; simp only [see1, see2, see3, Act.put, see4, see5, see6]
    refine aU 23 rfl ?_; simp only [see1, see2, see3, Act.put, see4, see5, see6]
    refine aT 24 (.bool false) rfl ?_; simp only [see1, see2, see3, Act.put, see4, see5, see6]
    refine aT 25 (.bool false) rfl ?_; simp only [see1, see2, see3, Act.put, see4, see5, see6]
    refine aT 26 (.pointer (some ⟨b9, 0, none⟩)) rfl ?_; simp only [see1, see2, see3, Act.put, see4, see5, see6]
    refine aT 27 (.int .i64 nm) rfl ?_ (h2 := fun W hS => by have c9 : W.cell? ⟨b9, 0, none⟩ = some (.int .i64 nm) := C0.out W hS.1; go_simp; done); simp only [see1, see2, see3, Act.put, see4, see5, see6]
    refine wpAnyH_all (rs := [28]) (by kernel_rfl) (by simp) ?_
    intro i28 hi28
    obtain rfl : i28 = 28 := by simpa using hi28
    refine op_goes rfl (by rfl) ?_
    go_simp
    refine (HWS.out _ (HT.out.below L6.out HT.out.two)).mono ?_
    rintro e w7 ⟨rfl, hb⟩
    have S2 : At w7 b9 25 (opC o) ∧ At w7 b12 25 (opC p) := ⟨at_keep S1.1 hb, at_keep S1.2 hb⟩
    have L7 := Lib.hid (L6.out.trans (hb.mono L6.out.size))
    clear hb
    dsimp only
    refine ⟨S2, ?_⟩
    refine aT 29 (.bool t) rfl ?_; simp only [see1, see2, see3, Act.put, see4, see5, see6]
    refine aT 30 (.bool true) rfl ?_; simp only [see1, see2, see3, Act.put, see4, see5, see6]
    refine aT 31 (.bool true) rfl ?_; simp only [see1, see2, see3, Act.put, see4, see5, see6]
    refine aT 32 (.bool true) rfl ?_; simp only [see1, see2, see3, Act.put, see4, see5, see6]
    refine wpAnyH_done (by kernel_rfl) ?_ _
    go_wp2
    go_ret
    exact ⟨rfl, L7.out⟩
  · have q57 : (nm != 57) = true := by simpa using h57
    by_cases hrd : rd = 0
    · have q0 : (rd != 0) = false := by rw [hrd]; rfl
      clear h57 hrd FW
      refine wp_region_held_drew (S := fun W => At W b9 25 (opC o) ∧ At W b12 25 (opC p)) (by kernel_rfl) SD ?_
      intro S0
      replace S0 : At w5.drew b9 25 (opC o) ∧ At w5.drew b12 25 (opC p) := SD
      refine aT 0 (.bool true) rfl ?_; simp only [see1, see2, Act.put, see4, see5, see6]
      refine aT 1 (.bool true) rfl ?_; simp only [see1, see2, see3, Act.put, see4, see5, see6]
      refine aT 2 (.bool true) rfl ?_; simp only [see1, see2, see3, Act.put, see4, see5, see6]
      refine aT 3 (.bool true) rfl ?_; simp only [see1, see2, see3, Act.put, see4, see5, see6]
      refine aT 4 (.bool true) rfl ?_; simp only [see1, see2, see3, Act.put, see4, see5, see6]
      refine aT 5 (.int .u32 (U m)) rfl ?_; simp only [see1, see2, see3, Act.put, see4, see5, see6]
      refine aT 6 (.int .u32 (U m')) rfl ?_; simp only [see1, see2, see3, Act.put, see4, see5, see6]
      refine aT 7 (.bool D) rfl ?_; simp only [see1, see2, see3, Act.put, see4, see5, see6]
      refine aT 8 (.agg (opC o).toArray) rfl ?_ (h2 := fun W hS => (load_is _ _ _ _ _ _ _ _ W).trans (load_at Tryd.underlying25 rfl op_size hS.1.rng0 rfl)); simp only [see1, see2, see3, Act.put, see4, see5, see6]
      refine aT 9 (.agg (opC p).toArray) rfl ?_ (h2 := fun W hS => (load_is _ _ _ _ _ _ _ _ W).trans (load_at Tryd.underlying25 rfl op_size hS.2.rng0 rfl)); simp only [see1, see2, see3, Act.put, see4, see5, see6]
      refine aT 10 (.bool D) rfl ?_; simp only [see1, see2, see3, Act.put, see4, see5, see6]
      refine aT 11 (.bool true) rfl ?_; simp only [see1, see2, see3, Act.put, see4, see5, see6]
      refine aT 12 (.bool true) rfl ?_; simp only [see1, see2, see3, Act.put, see4, see5, see6]
      refine aT 13 (.bool true) rfl ?_; simp only [see1, see2, see3, Act.put, see4, see5, see6]
      refine aT 14 (.pointer (some ⟨b9, 0, none⟩)) rfl ?_; simp only [see1, see2, see3, Act.put, see4, see5, see6]
      refine aT 15 (.int .i64 nm) rfl ?_ (h2 := fun W hS => by have c9 : W.cell? ⟨b9, 0, none⟩ = some (.int .i64 nm) := C0.out W hS.1; go_simp; done); simp only [see1, see2, see3, Act.put, see4, see5, see6]
      refine aT 17 (.pointer (some ⟨b9, 0, none⟩)) rfl ?_; simp only [see1, see2, see3, Act.put, see4, see5, see6]
      refine aT 18 (.int .i64 nm) rfl ?_ (h2 := fun W hS => by have c9 : W.cell? ⟨b9, 0, none⟩ = some (.int .i64 nm) := C0.out W hS.1; go_simp; done); simp only [see1, see2, see3, Act.put, see4, see5, see6]
      refine aT 19 (.bool true) rfl ?_; simp only [see1, see2, see3, Act.put, see4, see5, see6]
      refine wpAnyH_all (rs := [16]) (by kernel_rfl) (by simp) ?_
      intro i16 hi16
      obtain rfl : i16 = 16 := by simpa using hi16
      refine op_goes rfl (by rfl) ?_
      go_simp
      refine (HWR.out _).mono ?_
      rintro e w6 ⟨rfl, hb⟩
      have S1 : At w6 b9 25 (opC o) ∧ At w6 b12 25 (opC p) := ⟨at_keep S0.1 hb, at_keep S0.2 hb⟩
      have L6 := Lib.hid (LD.out.trans (hb.mono LD.out.size))
      clear hb
      dsimp only
      refine ⟨S1, ?_⟩
      refine aT 20 (.bool true) rfl ?_; simp only [see1, see2, see3, Act.put, see4, see5, see6]
      refine aT 21 (.pointer (some ⟨b9, 1, none⟩)) rfl ?_; simp only [see1, see2, see3, Act.put, see4, see5, see6]
      refine aT 22 (.int .i64 rd) rfl ?_ (h2 := fun W hS => by have c9 : W.cell? ⟨b9, 1, none⟩ = some (.int .i64 rd) := C1.out W hS.1; go_simp; done); simp only [see1, see2, see3, Act.put, see4, see5, see6]
      refine aT 23 (.bool false) rfl ?_; simp only [see1, see2, see3, Act.put, see4, see5, see6]
      refine aT 24 (.bool false) rfl ?_; simp only [see1, see2, see3, Act.put, see4, see5, see6]
      refine aT 25 (.bool false) rfl ?_; simp only [see1, see2, see3, Act.put, see4, see5, see6]
      refine aT 26 (.pointer (some ⟨b9, 0, none⟩)) rfl ?_; simp only [see1, see2, see3, Act.put, see4, see5, see6]
      refine aT 27 (.int .i64 nm) rfl ?_ (h2 := fun W hS => by have c9 : W.cell? ⟨b9, 0, none⟩ = some (.int .i64 nm) := C0.out W hS.1; go_simp; done); simp only [see1, see2, see3, Act.put, see4, see5, see6]
      refine wpAnyH_all (rs := [28]) (by kernel_rfl) (by simp) ?_
      intro i28 hi28
      obtain rfl : i28 = 28 := by simpa using hi28
      refine op_goes rfl (by rfl) ?_
      go_simp
      refine (HWS.out _ (HT.out.below L6.out HT.out.two)).mono ?_
      rintro e w7 ⟨rfl, hb⟩
      have S2 : At w7 b9 25 (opC o) ∧ At w7 b12 25 (opC p) := ⟨at_keep S1.1 hb, at_keep S1.2 hb⟩
      have L7 := Lib.hid (L6.out.trans (hb.mono L6.out.size))
      clear hb
      dsimp only
      refine ⟨S2, ?_⟩
      refine aT 29 (.bool t) rfl ?_; simp only [see1, see2, see3, Act.put, see4, see5, see6]
      refine aT 30 (.bool true) rfl ?_; simp only [see1, see2, see3, Act.put, see4, see5, see6]
      refine aT 31 (.bool true) rfl ?_; simp only [see1, see2, see3, Act.put, see4, see5, see6]
      refine aT 32 (.bool true) rfl ?_; simp only [see1, see2, see3, Act.put, see4, see5, see6]
      refine wpAnyH_done (by kernel_rfl) ?_ _
      go_wp2
      go_ret
      exact ⟨rfl, L7.out⟩
    · have q0 : (rd != 0) = true := by simpa using hrd
      obtain rfl : t = true := FW.out h57 hrd
      clear h57 hrd FW
      refine wp_region_held_drew (S := fun W => At W b9 25 (opC o) ∧ At W b12 25 (opC p)) (by kernel_rfl) SD ?_
      intro S0
      replace S0 : At w5.drew b9 25 (opC o) ∧ At w5.drew b12 25 (opC p) := SD
      refine aT 0 (.bool true) rfl ?_; simp only [see1, see2, Act.put, see4, see5, see6]
      refine aT 1 (.bool true) rfl ?_; simp only [see1, see2, see3, Act.put, see4, see5, see6]
      refine aT 2 (.bool true) rfl ?_; simp only [see1, see2, see3, Act.put, see4, see5, see6]
      refine aT 3 (.bool true) rfl ?_; simp only [see1, see2, see3, Act.put, see4, see5, see6]
      refine aT 4 (.bool true) rfl ?_; simp only [see1, see2, see3, Act.put, see4, see5, see6]
      refine aT 5 (.int .u32 (U m)) rfl ?_; simp only [see1, see2, see3, Act.put, see4, see5, see6]
      refine aT 6 (.int .u32 (U m')) rfl ?_; simp only [see1, see2, see3, Act.put, see4, see5, see6]
      refine aT 7 (.bool D) rfl ?_; simp only [see1, see2, see3, Act.put, see4, see5, see6]
      refine aT 8 (.agg (opC o).toArray) rfl ?_ (h2 := fun W hS => (load_is _ _ _ _ _ _ _ _ W).trans (load_at Tryd.underlying25 rfl op_size hS.1.rng0 rfl)); simp only [see1, see2, see3, Act.put, see4, see5, see6]
      refine aT 9 (.agg (opC p).toArray) rfl ?_ (h2 := fun W hS => (load_is _ _ _ _ _ _ _ _ W).trans (load_at Tryd.underlying25 rfl op_size hS.2.rng0 rfl)); simp only [see1, see2, see3, Act.put, see4, see5, see6]
      refine aT 10 (.bool D) rfl ?_; simp only [see1, see2, see3, Act.put, see4, see5, see6]
      refine aT 11 (.bool true) rfl ?_; simp only [see1, see2, see3, Act.put, see4, see5, see6]
      refine aT 12 (.bool true) rfl ?_; simp only [see1, see2, see3, Act.put, see4, see5, see6]
      refine aT 13 (.bool true) rfl ?_; simp only [see1, see2, see3, Act.put, see4, see5, see6]
      refine aT 14 (.pointer (some ⟨b9, 0, none⟩)) rfl ?_; simp only [see1, see2, see3, Act.put, see4, see5, see6]
      refine aT 15 (.int .i64 nm) rfl ?_ (h2 := fun W hS => by have c9 : W.cell? ⟨b9, 0, none⟩ = some (.int .i64 nm) := C0.out W hS.1; go_simp; done); simp only [see1, see2, see3, Act.put, see4, see5, see6]
      refine aT 17 (.pointer (some ⟨b9, 0, none⟩)) rfl ?_; simp only [see1, see2, see3, Act.put, see4, see5, see6]
      refine aT 18 (.int .i64 nm) rfl ?_ (h2 := fun W hS => by have c9 : W.cell? ⟨b9, 0, none⟩ = some (.int .i64 nm) := C0.out W hS.1; go_simp; done); simp only [see1, see2, see3, Act.put, see4, see5, see6]
      refine aT 19 (.bool true) rfl ?_; simp only [see1, see2, see3, Act.put, see4, see5, see6]
      refine wpAnyH_all (rs := [16]) (by kernel_rfl) (by simp) ?_
      intro i16 hi16
      obtain rfl : i16 = 16 := by simpa using hi16
      refine op_goes rfl (by rfl) ?_
      go_simp
      refine (HWR.out _).mono ?_
      rintro e w6 ⟨rfl, hb⟩
      have S1 : At w6 b9 25 (opC o) ∧ At w6 b12 25 (opC p) := ⟨at_keep S0.1 hb, at_keep S0.2 hb⟩
      have L6 := Lib.hid (LD.out.trans (hb.mono LD.out.size))
      clear hb
      dsimp only
      refine ⟨S1, ?_⟩
      refine aT 20 (.bool true) rfl ?_; simp only [see1, see2, see3, Act.put, see4, see5, see6]
      refine aT 21 (.pointer (some ⟨b9, 1, none⟩)) rfl ?_; simp only [see1, see2, see3, Act.put, see4, see5, see6]
      refine aT 22 (.int .i64 rd) rfl ?_ (h2 := fun W hS => by have c9 : W.cell? ⟨b9, 1, none⟩ = some (.int .i64 rd) := C1.out W hS.1; go_simp; done); simp only [see1, see2, see3, Act.put, see4, see5, see6]
      refine aT 23 (.bool true) rfl ?_; simp only [see1, see2, see3, Act.put, see4, see5, see6]
      refine aT 24 (.bool true) rfl ?_; simp only [see1, see2, see3, Act.put, see4, see5, see6]
      refine aT 25 (.bool true) rfl ?_; simp only [see1, see2, see3, Act.put, see4, see5, see6]
      refine aU 26 rfl ?_; simp only [see1, see2, see3, Act.put, see4, see5, see6]
      refine aU 27 rfl ?_; simp only [see1, see2, see3, Act.put, see4, see5, see6]
      refine aU 28 rfl ?_; simp only [see1, see2, see3, Act.put, see4, see5, see6]
      refine aT 29 (.bool true) rfl ?_; simp only [see1, see2, see3, Act.put, see4, see5, see6]
      refine aT 30 (.bool true) rfl ?_; simp only [see1, see2, see3, Act.put, see4, see5, see6]
      refine aT 31 (.bool true) rfl ?_; simp only [see1, see2, see3, Act.put, see4, see5, see6]
      refine aT 32 (.bool true) rfl ?_; simp only [see1, see2, see3, Act.put, see4, see5, see6]
      refine wpAnyH_done (by kernel_rfl) ?_ _
      go_wp2
      go_ret
      exact ⟨rfl, L6.out⟩
end Go.Proofs.YtdloaeifiohefaaDoor
