/- The walk of ModelOne. -/
import Derived.Test.YtakohcdopbckkaaMod13
namespace Go.Proofs.Ytakohcdopbckkaa
open Go.RowKit Bm
attribute [local go_sem ↓] Go.wp_at_zero Go.wp_at_succ ldM_eq ldV_eq

theorem one_calm {ds : List V4} {t : Nat} (ht : t < ds.length) (x : V4) : sMay (calmS ds) (ds.set t x) ↔ x = v4K.nth ds t := by
  constructor
  · intro h
    have := h.2 t (by simpa using ht)
    rcases this with h | ⟨h, _⟩
    · unfold vN at h
      rw [v4K.nth_set _ ht, if_pos rfl] at h
      exact h
    · cases h
  · rintro rfl
    refine ⟨by simp [calmS], fun i _ => .inl ?_⟩
    unfold vN
    rw [v4K.nth_set _ ht]
    split
    · rename_i e
      rw [e]
      rfl
    · rfl
theorem one_begun {ds : List V4} {t : Nat} (ht : t < ds.length) (y x : V4) : sMay ⟨ds, true, t, y⟩ (ds.set t x) ↔ (x = v4K.nth ds t ∨ x = y) := by
  constructor
  · intro h
    have := h.2 t (by simpa using ht)
    unfold okAt vN at this
    rw [v4K.nth_set _ ht, if_pos rfl] at this
    rcases this with h | ⟨_, _, h⟩
    · exact .inl h
    · exact .inr h
  · intro h
    refine ⟨by simp, fun i _ => ?_⟩
    unfold okAt vN
    rw [v4K.nth_set _ ht]
    by_cases e : i = t
    · subst e
      rw [if_pos rfl]
      rcases h with h | h
      · exact .inl h
      · exact .inr ⟨rfl, rfl, h⟩
    · rw [if_neg e]
      exact .inl rfl

theorem chain_begun9 {K t : Nat} {xs : List V4} {v : V4} {A : Option Addr} {c : Nat} {W : World} (hx : xs.length = K) (ht : t < K) (h50 : K ≤ 50000) (hR : v4K.Reads W A K c xs) : Calls Try.prog 15 #[.agg (stC (.slice A K c) (calmS xs)).toArray, .int .i64 (t : Int), .agg (v4C v).toArray] W (Back ⟨xs, true, t, v⟩ K W) := by
  subst hx
  refine (begun4_any A c (calmS xs) t v W hR h50).mono fun e w' h => ?_
  have e0 : sBegun (calmS xs) t v = ⟨xs, true, t, v⟩ := by unfold sBegun; rw [if_pos ⟨by omega, by show (t : Int) < (xs.length : Int); omega⟩]; rfl
  rw [e0] at h
  exact h.theirs.back rfl
def R2w (w : World) (cs vs : List Value) : World := (w.alloc (.cells cs.toArray 26)).alloc (.cells vs.toArray 42)
theorem R2w_a (w : World) (cs vs : List Value) : At (R2w w cs vs) w.heap.size 26 cs := (At.news w _ _).alloc _
theorem R2w_b (w : World) (cs vs : List Value) : At (R2w w cs vs) (w.heap.size + 1) 42 vs := At.alloc_new _ _ _ (by rw [World.size_alloc]) rfl
theorem R2w_below (w : World) (cs vs : List Value) : Below w.heap.size w (R2w w cs vs) := below_two w _ _
theorem three_ranges {W : World} {b : Nat} {x y z : V4} {T : TypeId} (h : At W b T (v4C x ++ (v4C y ++ v4C z))) : W.rangeAt b 0 (v4C x) ∧ W.rangeAt b 4 (v4C y) ∧ W.rangeAt b 8 (v4C z) := by
  have h0 : At W b T ([] ++ (v4C x ++ (v4C y ++ v4C z))) := h
  have h1 : At W b T (v4C x ++ (v4C y ++ v4C z)) := h
  have h2 : At W b T ((v4C x ++ v4C y) ++ (v4C z ++ [])) := h.as (by simp)
  exact ⟨h0.range, h1.range, h2.range⟩

set_option maxRecDepth 100000 in
set_option maxHeartbeats 8000000 in
theorem modelOne_walk (A : Option Addr) (c : Nat) (s : StM) (_ : (Lit.int .i64 s.at_).wf = true) (a : Int) (ha : (Lit.int .u8 a).wf = true) (x0 x1 x2 : V4) (w : World) (hR : v4K.Reads w A s.sure.length c s.sure) : Calls Try.prog 5 #[.agg (stC (.slice A s.sure.length c) s).toArray, .int .u8 a, .agg (v4C x0 ++ (v4C x1 ++ v4C x2)).toArray] w fun e w' => e = .returned (.bool true) ∧ Below w.heap.size w w' := by
  have bb := bounds_u8 ha
  have a0 : 0 ≤ a := bb.1
  have a1 : a ≤ 255 := bb.2
  obtain ⟨vs, hvs⟩ : ∃ vs, vs = v4C x0 ++ (v4C x1 ++ v4C x2) := ⟨_, rfl⟩
  obtain ⟨W0, hW0⟩ : ∃ W0, W0 = R2w w (stC (.slice A s.sure.length c) s) vs := ⟨_, rfl⟩
  have A0 := R2w_a w (stC (.slice A s.sure.length c) s) vs
  have A1 := R2w_b w (stC (.slice A s.sure.length c) s) vs
  have B0 := R2w_below w (stC (.slice A s.sure.length c) s) vs
  have hW1 := hW0
  unfold R2w at hW1
  rw [← hW0] at A0 A1 B0
  rw [← hvs]
  have hz := st_zero
  have hnm : (s.sure.length : Int) ≤ 9223372036854775807 := by have := hR.le; have := hR.max; unfold maxLen at *; omega
  have HVS := Lib.hid hvs
  have HA0 := Lib.hid A0
  have HA1 := Lib.hid A1
  have HB0 := Lib.hid B0
  have HR0 := Lib.hid (hR.kept B0)
  have AL := Lib.hid (alive9_any W0)
  clear A0 A1 B0 hR hW0 hvs bb ha
  have hcase : ((60 : Int) < (s.sure.length : Int)) ∨ ((s.sure.length : Int) ≤ 60 ∧ ((s.sure.length : Int) == 0) = true) ∨ ((s.sure.length : Int) ≤ 60 ∧ ((s.sure.length : Int) == 0) = false ∧ 0 < s.sure.length) := by
    simp only [beq_iff_eq, beq_eq_false_iff_ne]
    omega
  rcases hcase with h1 | ⟨h1, h2⟩ | ⟨h1, h2, h3⟩
  case inr.inr =>
    obtain ⟨n, hnE⟩ : ∃ n, n = s.sure.length := ⟨_, rfl⟩
    have HNE := Lib.hid hnE
    rw [← hnE] at h1 h2 h3 HR0 hW1 HA0 ⊢
    obtain ⟨t, ht⟩ : ∃ t : Nat, a % (n : Int) = (t : Int) := ⟨(a % (n : Int)).toNat, by have := Int.emod_nonneg a (show (n : Int) ≠ 0 by omega); omega⟩
    have htn : t < n := by have := Int.emod_lt_of_pos a (show (0 : Int) < (n : Int) by omega); omega
    have hn60 : n ≤ 60 := by omega
    have hn0 : (0 : Int) < (n : Int) := by omega
    have HTN := Lib.hid htn
    clear hnE htn hnm
    go_enter Try.func5, Try.ntmps5
    go_upto_region 1 with (fail)
    change Code.wp _ _ _ _ ((w.alloc (.cells (stC (.slice A n c) s).toArray 26)).alloc (.cells vs.toArray 42))
    rw [← hW1]
    clear hW1
    go_upto_region 6 with (go_at_call 9; (with_reducible refine AL.out.mono ?_); rintro e w1 ⟨rfl, hb⟩; have HB1 := Lib.hid (below_next HB0.out hb); have HA2 := Lib.hid (at_kept HA0.out hb); have HA3 := Lib.hid (at_kept HA1.out hb); have HR1 := Lib.hid (HR0.out.kept hb); have g0 : w1.cell? ⟨w.heap.size, 0, none⟩ = some (.slice A n c) := HA2.out.cell 0; clear hb)
    obtain ⟨W2, hW2⟩ : ∃ W2, W2 = w1.alloc (.cells #[.int .i64 (t : Int)] 3) := ⟨_, rfl⟩
    have hb2 : Below w1.heap.size w1 W2 := by rw [hW2]; exact (Below.refl _ w1).alloc (Nat.le_refl _) _
    have k2 : At W2 w1.heap.size 3 [.int .i64 (t : Int)] := by rw [hW2]; exact At.news w1 _ _
    obtain ⟨b7, hb7⟩ : ∃ b7, b7 = w1.heap.size := ⟨_, rfl⟩
    rw [← hb7] at k2 ⊢
    rw [← hW2]
    have g7 : W2.cell? ⟨b7, 0, none⟩ = some (.int .i64 (t : Int)) := k2.cell 0
    have HK2 := Lib.hid k2
    have HA4 := Lib.hid (at_kept HA2.out hb2)
    have hv := at_kept HA3.out hb2
    have HV4 := Lib.hid hv
    rw [HVS.out] at hv
    have HR2 := Lib.hid (HR1.out.kept hb2)
    have HB2 := Lib.hid (below_next HB1.out hb2)
    have T0 := Lib.hid (three_ranges hv).1
    obtain ⟨ds, hds⟩ : ∃ ds, ds = s.sure.set t x0 := ⟨_, rfl⟩
    have hdl : ds.length = n := by rw [hds, List.length_set, HNE.out]
    have CD : Hid (Calls Try.prog 13 #[.agg (stC (.slice A n c) s).toArray, .int .i64 (t : Int), .agg (v4C x0).toArray] W2 (Back (calmS ds) n W2)) := Lib.hid (by
      have hn := HNE.out
      have hr := HR2.out
      have htn := HTN.out
      subst hn
      refine (done4_any A c s t x0 W2 hr (by omega)).mono fun e w' h => ?_
      rw [show sDone s t x0 = calmS ds by unfold sDone; rw [if_pos (by unfold isAt; omega), hds]; rfl] at h
      exact h.theirs.back hdl)
    have HDS := Lib.hid hds
    have HDL := Lib.hid hdl
    clear hW2 hb2 k2 hb7 hv hds hdl g0 HA2 HA3 HR1 HB1 HA0 HA1 HB0 HR0 AL
    go_upto_region 7 with (first
      | (refine wpList_ldr (xs := stC (.slice A n c) s) _ rfl rfl rfl Try.underlying26 rfl rs_size (stC_len _ _) HA4.out.rng0 ?_)
      | (refine wpList_ldr (xs := v4C x0) _ rfl rfl rfl Try.underlying24 rfl v4_size (v4_len _) T0.out ?_)
      | (go_at_call 13; (with_reducible refine CD.out.mono ?_); rintro e w3 ⟨D, c3, rfl, hr, hb⟩; have HR3 := Lib.hid hr; have HB3 := Lib.hid hb; clear hr hb)
      | (refine wpList_stm (pre := []) (post := []) (xs := stC (.slice none 0 0) st0) (ys := stC (.slice D n c3) (calmS ds)) _ _ rfl rfl rfl rfl st_size (by rfl) (stC_len _ _) (stC_one _) rfl (by simp) (At.news w3 _ _) ?_; intro V3 A9 T9; rw [List.nil_append, List.append_nil] at A9; have HA9 := Lib.hid A9; have HT9 := Lib.hid T9; clear A9 T9))
    have hb3 : Below W2.heap.size W2 V3 := below_next HB3.out (below_var HT9.out)
    obtain ⟨b8, hb8⟩ : ∃ b8, b8 = w3.heap.size := ⟨_, rfl⟩
    have ha8 := HA9.out
    rw [← hb8] at ha8 ⊢
    have H8 := Lib.hid ha8
    have HRD := Lib.hid (HR3.out.kept (below_var HT9.out))
    have HK3 := Lib.hid (at_kept HK2.out hb3)
    have hv := at_kept HV4.out hb3
    have HV3 := Lib.hid hv
    rw [HVS.out] at hv
    have T1 := Lib.hid (three_ranges hv).2.1
    have HB4 := Lib.hid (below_next HB2.out hb3)
    have g73 : V3.cell? ⟨b7, 0, none⟩ = some (.int .i64 (t : Int)) := HK3.out.cell 0
    have CB := Lib.hid (chain_begun9 (v := x1) HDL.out HTN.out (by omega) HRD.out)
    clear hb3 hb8 ha8 hv HA9 HT9 HB3 HR3 HK2 HV4 HB2 g7 CD T0 HR2 HA4
    go_upto_region 9 with (first
      | (refine wpList_ldr (xs := stC (.slice D n c3) (calmS ds)) _ rfl rfl rfl Try.underlying28 rfl st_size (stC_len _ _) H8.out.rng0 ?_)
      | (refine wpList_ldr (xs := v4C x1) _ rfl rfl rfl Try.underlying24 rfl v4_size (v4_len _) T1.out ?_)
      | (go_at_call 15; (with_reducible refine CB.out.mono ?_); rintro e w4 ⟨E, c4, rfl, hr, hb⟩; have HR4 := Lib.hid hr; have HB5 := Lib.hid hb; clear hr hb)
      | (refine wpList_stm (pre := []) (post := []) (xs := stC (.slice none 0 0) st0) (ys := stC (.slice E n c4) ⟨ds, true, t, x1⟩) _ _ rfl rfl rfl rfl st_size (by rfl) (stC_len _ _) (stC_one _) rfl (by simp) (At.news w4 _ _) ?_; intro V4 A9 T9; rw [List.nil_append, List.append_nil] at A9; have HA9 := Lib.hid A9; have HT9 := Lib.hid T9; clear A9 T9))
    have hb5 : Below V3.heap.size V3 V4 := below_next HB5.out (below_var HT9.out)
    obtain ⟨b9, hb9⟩ : ∃ b9, b9 = w4.heap.size := ⟨_, rfl⟩
    have ha9 := HA9.out
    rw [← hb9] at ha9 ⊢
    have hv := at_kept HV3.out hb5
    rw [HVS.out] at hv
    have hk := at_kept HK3.out hb5
    have h8 := at_kept H8.out hb5
    have hd := HRD.out.kept hb5
    have he := HR4.out.kept (below_var HT9.out)
    have HBV := Lib.hid (below_next HB4.out hb5)
    clear hb5 hb9 HA9 HT9 HB5 HR4 HV3 HK3 HB4 H8 HRD g73 CB T1
    have hn50 : ds.length ≤ 50000 := by rw [HDL.out]; omega
    have htd : t < ds.length := by rw [HDL.out]; exact HTN.out
    have hx0 : v4K.nth ds t = x0 := by rw [HDS.out, v4K.nth_set _ (by rw [← HNE.out]; exact HTN.out), if_pos rfl]
    have e8 : ∀ W, Below V4.heap.size V4 W → (run_ex (loadOf 28) (.pointer (some ⟨b8, 0, none⟩)) W).choose = .ok (.value (.agg (stC (.slice D n c3) (calmS ds)).toArray)) W := fun W h => ldM_at (at_kept h8 h)
    have e9 : ∀ W, Below V4.heap.size V4 W → (run_ex (loadOf 28) (.pointer (some ⟨b9, 0, none⟩)) W).choose = .ok (.value (.agg (stC (.slice E n c4) ⟨ds, true, t, x1⟩).toArray)) W := fun W h => ldM_at (at_kept ha9 h)
    have l0 : ∀ W, Below V4.heap.size V4 W → (run_ex (loadOf 24) (.pointer (some ⟨w.heap.size + 1, 0, none⟩)) W).choose = .ok (.value (.agg (v4C x0).toArray)) W := fun W h => load_at Try.underlying24 rfl v4_size (three_ranges (at_kept hv h)).1 (v4_len _)
    have l1 : ∀ W, Below V4.heap.size V4 W → (run_ex (loadOf 24) (.pointer (some ⟨w.heap.size + 1, 4, none⟩)) W).choose = .ok (.value (.agg (v4C x1).toArray)) W := fun W h => load_at Try.underlying24 rfl v4_size (three_ranges (at_kept hv h)).2.1 (v4_len _)
    have l2 : ∀ W, Below V4.heap.size V4 W → (run_ex (loadOf 24) (.pointer (some ⟨w.heap.size + 1, 8, none⟩)) W).choose = .ok (.value (.agg (v4C x2).toArray)) W := fun W h => load_at Try.underlying24 rfl v4_size (three_ranges (at_kept hv h)).2.2 (v4_len _)
    have CW : Hid (∀ x W, Below V4.heap.size V4 W → Calls Try.prog 21 #[.agg (v4C x).toArray, .pointer (some ⟨b8, 0, none⟩), .pointer (some ⟨b7, 0, none⟩)] W fun e w' => ∃ B cap, e = .returned (.slice B n cap) ∧ v4K.Reads w' B n cap (ds.set t x) ∧ Below W.heap.size W w') := Lib.hid (fun x W h => by
      have hl := HDL.out
      subst hl
      exact with4_any b7 b8 D c3 (calmS ds) t x W (at_kept h8 h) (hd.kept h) (at_kept hk h) htd hn50)
    have CM8 : Hid (∀ x W B cap, Below V4.heap.size V4 W → v4K.Reads W B n cap (ds.set t x) → Calls Try.prog 17 #[.agg (stC (.slice D n c3) (calmS ds)).toArray, .slice B n cap] W fun e w' => e = .returned (.bool (decide (x = x0))) ∧ Below W.heap.size W w') := Lib.hid (fun x W B cap h hr => by
      have hl := HDL.out
      have hs : (ds.set t x).length = n := by rw [List.length_set, hl]
      have := may4_any D c3 (calmS ds) B cap (ds.set t x) W (by have := hd.kept h; rw [← hl] at this; exact this) (by rw [hs]; exact hr) (by rw [hs]; omega)
      have e1 : decide (sMay (calmS ds) (ds.set t x)) = decide (x = x0) := decide_eq_decide.2 (by rw [one_calm htd, hx0])
      rw [hs, e1] at this
      have e2 : (calmS ds).sure.length = n := hl
      rw [e2] at this
      exact this)
    have CM9 : Hid (∀ x W B cap, Below V4.heap.size V4 W → v4K.Reads W B n cap (ds.set t x) → Calls Try.prog 17 #[.agg (stC (.slice E n c4) ⟨ds, true, t, x1⟩).toArray, .slice B n cap] W fun e w' => e = .returned (.bool (decide (x = x0 ∨ x = x1))) ∧ Below W.heap.size W w') := Lib.hid (fun x W B cap h hr => by
      have hl := HDL.out
      have hs : (ds.set t x).length = n := by rw [List.length_set, hl]
      have e1 : decide (sMay ⟨ds, true, t, x1⟩ (ds.set t x)) = decide (x = x0 ∨ x = x1) := decide_eq_decide.2 (by rw [one_begun htd, hx0])
      have hw := he.kept h
      obtain ⟨r, hr2⟩ : ∃ r : StM, r = ⟨ds, true, t, x1⟩ := ⟨_, rfl⟩
      have hrs : r.sure = ds := by rw [hr2]
      have hrl : r.sure.length = n := by rw [hrs]; exact hl
      rw [← hr2] at e1 ⊢
      have hw2 : v4K.Reads W E r.sure.length c4 r.sure := by rw [hrl, hrs]; exact hw
      have := may4_any E c4 r B cap (ds.set t x) W hw2 (by rw [hs]; exact hr) (by rw [hs]; omega)
      rw [hs, e1, hrl] at this
      exact this)
    have SD : Below V4.heap.size V4 V4.drew := (Below.refl _ _).drew
    have q20 : ∀ W, (Op.equalIn 10000 24 (.agg (v4C x2).toArray) (.agg (v4C x0).toArray)).run Try.prog W = .ok (decide (x2 = x0)) W := fun W => run_eqv x2 x0 W
    have q21 : ∀ W, (Op.equalIn 10000 24 (.agg (v4C x2).toArray) (.agg (v4C x1).toArray)).run Try.prog W = .ok (decide (x2 = x1)) W := fun W => run_eqv x2 x1 W
    have M80 : Hid (decide (x0 = x0) = true) := Lib.hid (by simp)
    have M90 : Hid (decide (x0 = x0 ∨ x0 = x1) = true) := Lib.hid (by simp)
    have M91 : Hid (decide (x1 = x0 ∨ x1 = x1) = true) := Lib.hid (by simp)
    clear ha9 hv hk h8 hd he hn50 htd hx0
    by_cases h20 : x2 = x0
    · have d20 : decide (x2 = x0) = true := by simp [h20]
      rw [d20] at q20
      clear h20 d20
      refine wp_region_held_drew (S := fun W => Below V4.heap.size V4 W) (by kernel_rfl) SD ?_
      intro S0
      replace S0 : Below V4.heap.size V4 V4.drew := SD
      refine aT 0 (.agg (stC (.slice D n c3) (calmS ds)).toArray) rfl ?_ (h2 := fun W hS => (load_is _ _ _ _ _ _ _ _ W).trans (e8 W hS)); simp only [List.getElem_toArray, List.getElem_cons_zero, Act.put, List.setIfInBounds_toArray, List.set_cons_zero, List.set_cons_succ]
      refine aT 1 (.func (.func 21) #[] #[.pointer (some ⟨b8, 0, none⟩), .pointer (some ⟨b7, 0, none⟩)]) rfl ?_; simp only [List.getElem_toArray, List.getElem_cons_zero, List.getElem_cons_succ, Act.put, List.setIfInBounds_toArray, List.set_cons_zero, List.set_cons_succ]
      refine aT 2 (.pointer (some ⟨w.heap.size + 1, 0, none⟩)) rfl ?_; simp only [List.getElem_toArray, List.getElem_cons_zero, List.getElem_cons_succ, Act.put, List.setIfInBounds_toArray, List.set_cons_zero, List.set_cons_succ]
      refine aT 3 (.agg (v4C x0).toArray) rfl ?_ (h2 := fun W hS => (load_is _ _ _ _ _ _ _ _ W).trans (l0 W hS)); simp only [List.getElem_toArray, List.getElem_cons_zero, List.getElem_cons_succ, Act.put, List.setIfInBounds_toArray, List.set_cons_zero, List.set_cons_succ]
      refine wpAnyH_all (rs := [4]) (by kernel_rfl) (by simp) ?_
      intro i4 hi4
      obtain rfl : i4 = 4 := by simpa using hi4
      refine op_goes rfl (by rfl) ?_
      go_simp
      refine (CW.out x0 _ S0).mono ?_
      rintro e y1 ⟨B1, k1, rfl, hr, hb⟩
      have R1 := Lib.hid hr
      clear hr
      have S1 := S0.trans (hb.mono S0.size)
      clear hb
      dsimp only
      refine ⟨S1, ?_⟩
      refine wpAnyH_all (rs := [5]) (by kernel_rfl) (by simp) ?_
      intro i5 hi5
      obtain rfl : i5 = 5 := by simpa using hi5
      refine op_goes rfl (by rfl) ?_
      go_simp
      refine (CM8.out x0 _ _ _ S1 R1.out).mono ?_
      rintro e y2 ⟨rfl, hb⟩
      rw [M80.out]
      have S2 := S1.trans (hb.mono S1.size)
      clear hb
      dsimp only
      refine ⟨S2, ?_⟩
      refine aT 6 (.bool true) rfl ?_; simp only [List.getElem_toArray, List.getElem_cons_zero, List.getElem_cons_succ, Act.put, List.setIfInBounds_toArray, List.set_cons_zero, List.set_cons_succ]
      refine aT 7 (.pointer (some ⟨w.heap.size + 1, 8, none⟩)) rfl ?_; simp only [List.getElem_toArray, List.getElem_cons_zero, List.getElem_cons_succ, Act.put, List.setIfInBounds_toArray, List.set_cons_zero, List.set_cons_succ]
      refine aT 8 (.agg (v4C x2).toArray) rfl ?_ (h2 := fun W hS => (load_is _ _ _ _ _ _ _ _ W).trans (l2 W hS)); simp only [List.getElem_toArray, List.getElem_cons_zero, List.getElem_cons_succ, Act.put, List.setIfInBounds_toArray, List.set_cons_zero, List.set_cons_succ]
      refine aT 9 (.pointer (some ⟨w.heap.size + 1, 0, none⟩)) rfl ?_; simp only [List.getElem_toArray, List.getElem_cons_zero, List.getElem_cons_succ, Act.put, List.setIfInBounds_toArray, List.set_cons_zero, List.set_cons_succ]
      refine aT 10 (.agg (v4C x0).toArray) rfl ?_ (h2 := fun W hS => (load_is _ _ _ _ _ _ _ _ W).trans (l0 W hS)); simp only [List.getElem_toArray, List.getElem_cons_zero, List.getElem_cons_succ, Act.put, List.setIfInBounds_toArray, List.set_cons_zero, List.set_cons_succ]
      refine aT 11 (.bool true) rfl ?_; simp only [List.getElem_toArray, List.getElem_cons_zero, List.getElem_cons_succ, Act.put, List.setIfInBounds_toArray, List.set_cons_zero, List.set_cons_succ]
      refine aT 12 (.bool true) rfl ?_; simp only [List.getElem_toArray, List.getElem_cons_zero, List.getElem_cons_succ, Act.put, List.setIfInBounds_toArray, List.set_cons_zero, List.set_cons_succ]
      refine aU 13 rfl ?_; simp only [List.getElem_toArray, List.getElem_cons_zero, List.getElem_cons_succ, Act.put, List.setIfInBounds_toArray, List.set_cons_zero, List.set_cons_succ]
      refine aU 14 rfl ?_; simp only [List.getElem_toArray, List.getElem_cons_zero, List.getElem_cons_succ, Act.put, List.setIfInBounds_toArray, List.set_cons_zero, List.set_cons_succ]
      refine aU 15 rfl ?_; simp only [List.getElem_toArray, List.getElem_cons_zero, List.getElem_cons_succ, Act.put, List.setIfInBounds_toArray, List.set_cons_zero, List.set_cons_succ]
      refine aU 16 rfl ?_; simp only [List.getElem_toArray, List.getElem_cons_zero, List.getElem_cons_succ, Act.put, List.setIfInBounds_toArray, List.set_cons_zero, List.set_cons_succ]
      refine aU 17 rfl ?_; simp only [List.getElem_toArray, List.getElem_cons_zero, List.getElem_cons_succ, Act.put, List.setIfInBounds_toArray, List.set_cons_zero, List.set_cons_succ]
      refine aU 18 rfl ?_; simp only [List.getElem_toArray, List.getElem_cons_zero, List.getElem_cons_succ, Act.put, List.setIfInBounds_toArray, List.set_cons_zero, List.set_cons_succ]
      refine aU 19 rfl ?_; simp only [List.getElem_toArray, List.getElem_cons_zero, List.getElem_cons_succ, Act.put, List.setIfInBounds_toArray, List.set_cons_zero, List.set_cons_succ]
      refine aT 20 (.bool true) rfl ?_; simp only [List.getElem_toArray, List.getElem_cons_zero, List.getElem_cons_succ, Act.put, List.setIfInBounds_toArray, List.set_cons_zero, List.set_cons_succ]
      refine aT 21 (.bool true) rfl ?_; simp only [List.getElem_toArray, List.getElem_cons_zero, List.getElem_cons_succ, Act.put, List.setIfInBounds_toArray, List.set_cons_zero, List.set_cons_succ]
      refine aT 22 (.bool true) rfl ?_; simp only [List.getElem_toArray, List.getElem_cons_zero, List.getElem_cons_succ, Act.put, List.setIfInBounds_toArray, List.set_cons_zero, List.set_cons_succ]
      refine aT 23 (.agg (stC (.slice E n c4) ⟨ds, true, t, x1⟩).toArray) rfl ?_ (h2 := fun W hS => (load_is _ _ _ _ _ _ _ _ W).trans (e9 W hS)); simp only [List.getElem_toArray, List.getElem_cons_zero, List.getElem_cons_succ, Act.put, List.setIfInBounds_toArray, List.set_cons_zero, List.set_cons_succ]
      refine aT 24 (.func (.func 21) #[] #[.pointer (some ⟨b8, 0, none⟩), .pointer (some ⟨b7, 0, none⟩)]) rfl ?_; simp only [List.getElem_toArray, List.getElem_cons_zero, List.getElem_cons_succ, Act.put, List.setIfInBounds_toArray, List.set_cons_zero, List.set_cons_succ]
      refine aT 25 (.pointer (some ⟨w.heap.size + 1, 0, none⟩)) rfl ?_; simp only [List.getElem_toArray, List.getElem_cons_zero, List.getElem_cons_succ, Act.put, List.setIfInBounds_toArray, List.set_cons_zero, List.set_cons_succ]
      refine aT 26 (.agg (v4C x0).toArray) rfl ?_ (h2 := fun W hS => (load_is _ _ _ _ _ _ _ _ W).trans (l0 W hS)); simp only [List.getElem_toArray, List.getElem_cons_zero, List.getElem_cons_succ, Act.put, List.setIfInBounds_toArray, List.set_cons_zero, List.set_cons_succ]
      refine wpAnyH_all (rs := [27]) (by kernel_rfl) (by simp) ?_
      intro i27 hi27
      obtain rfl : i27 = 27 := by simpa using hi27
      refine op_goes rfl (by rfl) ?_
      go_simp
      refine (CW.out x0 _ S2).mono ?_
      rintro e y3 ⟨B3, k3, rfl, hr, hb⟩
      have R3 := Lib.hid hr
      clear hr
      have S3 := S2.trans (hb.mono S2.size)
      clear hb
      dsimp only
      refine ⟨S3, ?_⟩
      refine wpAnyH_all (rs := [28]) (by kernel_rfl) (by simp) ?_
      intro i28 hi28
      obtain rfl : i28 = 28 := by simpa using hi28
      refine op_goes rfl (by rfl) ?_
      go_simp
      refine (CM9.out x0 _ _ _ S3 R3.out).mono ?_
      rintro e y4 ⟨rfl, hb⟩
      rw [M90.out]
      have S4 := S3.trans (hb.mono S3.size)
      clear hb
      dsimp only
      refine ⟨S4, ?_⟩
      refine aT 29 (.bool true) rfl ?_; simp only [List.getElem_toArray, List.getElem_cons_zero, List.getElem_cons_succ, Act.put, List.setIfInBounds_toArray, List.set_cons_zero, List.set_cons_succ]
      refine aT 30 (.bool true) rfl ?_; simp only [List.getElem_toArray, List.getElem_cons_zero, List.getElem_cons_succ, Act.put, List.setIfInBounds_toArray, List.set_cons_zero, List.set_cons_succ]
      refine aT 31 (.agg (stC (.slice E n c4) ⟨ds, true, t, x1⟩).toArray) rfl ?_ (h2 := fun W hS => (load_is _ _ _ _ _ _ _ _ W).trans (e9 W hS)); simp only [List.getElem_toArray, List.getElem_cons_zero, List.getElem_cons_succ, Act.put, List.setIfInBounds_toArray, List.set_cons_zero, List.set_cons_succ]
      refine aT 32 (.func (.func 21) #[] #[.pointer (some ⟨b8, 0, none⟩), .pointer (some ⟨b7, 0, none⟩)]) rfl ?_; simp only [List.getElem_toArray, List.getElem_cons_zero, List.getElem_cons_succ, Act.put, List.setIfInBounds_toArray, List.set_cons_zero, List.set_cons_succ]
      refine aT 33 (.pointer (some ⟨w.heap.size + 1, 4, none⟩)) rfl ?_; simp only [List.getElem_toArray, List.getElem_cons_zero, List.getElem_cons_succ, Act.put, List.setIfInBounds_toArray, List.set_cons_zero, List.set_cons_succ]
      refine aT 34 (.agg (v4C x1).toArray) rfl ?_ (h2 := fun W hS => (load_is _ _ _ _ _ _ _ _ W).trans (l1 W hS)); simp only [List.getElem_toArray, List.getElem_cons_zero, List.getElem_cons_succ, Act.put, List.setIfInBounds_toArray, List.set_cons_zero, List.set_cons_succ]
      refine wpAnyH_all (rs := [35]) (by kernel_rfl) (by simp) ?_
      intro i35 hi35
      obtain rfl : i35 = 35 := by simpa using hi35
      refine op_goes rfl (by rfl) ?_
      go_simp
      refine (CW.out x1 _ S4).mono ?_
      rintro e y5 ⟨B5, k5, rfl, hr, hb⟩
      have R5 := Lib.hid hr
      clear hr
      have S5 := S4.trans (hb.mono S4.size)
      clear hb
      dsimp only
      refine ⟨S5, ?_⟩
      refine wpAnyH_all (rs := [36]) (by kernel_rfl) (by simp) ?_
      intro i36 hi36
      obtain rfl : i36 = 36 := by simpa using hi36
      refine op_goes rfl (by rfl) ?_
      go_simp
      refine (CM9.out x1 _ _ _ S5 R5.out).mono ?_
      rintro e y6 ⟨rfl, hb⟩
      rw [M91.out]
      have S6 := S5.trans (hb.mono S5.size)
      clear hb
      dsimp only
      refine ⟨S6, ?_⟩
      refine aT 37 (.bool true) rfl ?_; simp only [List.getElem_toArray, List.getElem_cons_zero, List.getElem_cons_succ, Act.put, List.setIfInBounds_toArray, List.set_cons_zero, List.set_cons_succ]
      refine aT 38 (.bool true) rfl ?_; simp only [List.getElem_toArray, List.getElem_cons_zero, List.getElem_cons_succ, Act.put, List.setIfInBounds_toArray, List.set_cons_zero, List.set_cons_succ]
      refine aT 39 (.pointer (some ⟨w.heap.size + 1, 8, none⟩)) rfl ?_; simp only [List.getElem_toArray, List.getElem_cons_zero, List.getElem_cons_succ, Act.put, List.setIfInBounds_toArray, List.set_cons_zero, List.set_cons_succ]
      refine aT 40 (.agg (v4C x2).toArray) rfl ?_ (h2 := fun W hS => (load_is _ _ _ _ _ _ _ _ W).trans (l2 W hS)); simp only [List.getElem_toArray, List.getElem_cons_zero, List.getElem_cons_succ, Act.put, List.setIfInBounds_toArray, List.set_cons_zero, List.set_cons_succ]
      refine aT 41 (.pointer (some ⟨w.heap.size + 1, 0, none⟩)) rfl ?_; simp only [List.getElem_toArray, List.getElem_cons_zero, List.getElem_cons_succ, Act.put, List.setIfInBounds_toArray, List.set_cons_zero, List.set_cons_succ]
      refine aT 42 (.agg (v4C x0).toArray) rfl ?_ (h2 := fun W hS => (load_is _ _ _ _ _ _ _ _ W).trans (l0 W hS)); simp only [List.getElem_toArray, List.getElem_cons_zero, List.getElem_cons_succ, Act.put, List.setIfInBounds_toArray, List.set_cons_zero, List.set_cons_succ]
      refine aT 43 (.bool true) rfl ?_; simp only [List.getElem_toArray, List.getElem_cons_zero, List.getElem_cons_succ, Act.put, List.setIfInBounds_toArray, List.set_cons_zero, List.set_cons_succ]
      refine aT 44 (.bool true) rfl ?_; simp only [List.getElem_toArray, List.getElem_cons_zero, List.getElem_cons_succ, Act.put, List.setIfInBounds_toArray, List.set_cons_zero, List.set_cons_succ]
      refine aU 45 rfl ?_; simp only [List.getElem_toArray, List.getElem_cons_zero, List.getElem_cons_succ, Act.put, List.setIfInBounds_toArray, List.set_cons_zero, List.set_cons_succ]
      refine aU 46 rfl ?_; simp only [List.getElem_toArray, List.getElem_cons_zero, List.getElem_cons_succ, Act.put, List.setIfInBounds_toArray, List.set_cons_zero, List.set_cons_succ]
      refine aU 47 rfl ?_; simp only [List.getElem_toArray, List.getElem_cons_zero, List.getElem_cons_succ, Act.put, List.setIfInBounds_toArray, List.set_cons_zero, List.set_cons_succ]
      refine aU 48 rfl ?_; simp only [List.getElem_toArray, List.getElem_cons_zero, List.getElem_cons_succ, Act.put, List.setIfInBounds_toArray, List.set_cons_zero, List.set_cons_succ]
      refine aU 49 rfl ?_; simp only [List.getElem_toArray, List.getElem_cons_zero, List.getElem_cons_succ, Act.put, List.setIfInBounds_toArray, List.set_cons_zero, List.set_cons_succ]
      refine aT 50 (.bool true) rfl ?_; simp only [List.getElem_toArray, List.getElem_cons_zero, List.getElem_cons_succ, Act.put, List.setIfInBounds_toArray, List.set_cons_zero, List.set_cons_succ]
      refine aT 51 (.bool true) rfl ?_; simp only [List.getElem_toArray, List.getElem_cons_zero, List.getElem_cons_succ, Act.put, List.setIfInBounds_toArray, List.set_cons_zero, List.set_cons_succ]
      refine aU 52 rfl ?_; simp only [List.getElem_toArray, List.getElem_cons_zero, List.getElem_cons_succ, Act.put, List.setIfInBounds_toArray, List.set_cons_zero, List.set_cons_succ]
      refine aU 53 rfl ?_; simp only [List.getElem_toArray, List.getElem_cons_zero, List.getElem_cons_succ, Act.put, List.setIfInBounds_toArray, List.set_cons_zero, List.set_cons_succ]
      refine aU 54 rfl ?_; simp only [List.getElem_toArray, List.getElem_cons_zero, List.getElem_cons_succ, Act.put, List.setIfInBounds_toArray, List.set_cons_zero, List.set_cons_succ]
      refine aU 55 rfl ?_; simp only [List.getElem_toArray, List.getElem_cons_zero, List.getElem_cons_succ, Act.put, List.setIfInBounds_toArray, List.set_cons_zero, List.set_cons_succ]
      refine aU 56 rfl ?_; simp only [List.getElem_toArray, List.getElem_cons_zero, List.getElem_cons_succ, Act.put, List.setIfInBounds_toArray, List.set_cons_zero, List.set_cons_succ]
      refine aU 57 rfl ?_; simp only [List.getElem_toArray, List.getElem_cons_zero, List.getElem_cons_succ, Act.put, List.setIfInBounds_toArray, List.set_cons_zero, List.set_cons_succ]
      refine aU 58 rfl ?_; simp only [List.getElem_toArray, List.getElem_cons_zero, List.getElem_cons_succ, Act.put, List.setIfInBounds_toArray, List.set_cons_zero, List.set_cons_succ]
      refine aT 59 (.bool true) rfl ?_; simp only [List.getElem_toArray, List.getElem_cons_zero, List.getElem_cons_succ, Act.put, List.setIfInBounds_toArray, List.set_cons_zero, List.set_cons_succ]
      refine aT 60 (.bool true) rfl ?_; simp only [List.getElem_toArray, List.getElem_cons_zero, List.getElem_cons_succ, Act.put, List.setIfInBounds_toArray, List.set_cons_zero, List.set_cons_succ]
      refine aT 61 (.bool true) rfl ?_; simp only [List.getElem_toArray, List.getElem_cons_zero, List.getElem_cons_succ, Act.put, List.setIfInBounds_toArray, List.set_cons_zero, List.set_cons_succ]
      refine wpAnyH_done (by kernel_rfl) ?_ _
      have HSZ := Lib.hid S6
      go_wp2
      go_ret
      exact ⟨rfl, below_next HBV.out HSZ.out⟩
    · have d20 : decide (x2 = x0) = false := by simp [h20]
      rw [d20] at q20
      have HD20 := Lib.hid d20
      clear d20
      by_cases h21 : x2 = x1
      · have d21 : decide (x2 = x1) = true := by simp [h21]
        rw [d21] at q21
        clear h20 h21 d21
        refine wp_region_held_drew (S := fun W => Below V4.heap.size V4 W) (by kernel_rfl) SD ?_
        intro S0
        replace S0 : Below V4.heap.size V4 V4.drew := SD
        refine aT 0 (.agg (stC (.slice D n c3) (calmS ds)).toArray) rfl ?_ (h2 := fun W hS => (load_is _ _ _ _ _ _ _ _ W).trans (e8 W hS)); simp only [List.getElem_toArray, List.getElem_cons_zero, Act.put, List.setIfInBounds_toArray, List.set_cons_zero, List.set_cons_succ]
        refine aT 1 (.func (.func 21) #[] #[.pointer (some ⟨b8, 0, none⟩), .pointer (some ⟨b7, 0, none⟩)]) rfl ?_; simp only [List.getElem_toArray, List.getElem_cons_zero, List.getElem_cons_succ, Act.put, List.setIfInBounds_toArray, List.set_cons_zero, List.set_cons_succ]
        refine aT 2 (.pointer (some ⟨w.heap.size + 1, 0, none⟩)) rfl ?_; simp only [List.getElem_toArray, List.getElem_cons_zero, List.getElem_cons_succ, Act.put, List.setIfInBounds_toArray, List.set_cons_zero, List.set_cons_succ]
        refine aT 3 (.agg (v4C x0).toArray) rfl ?_ (h2 := fun W hS => (load_is _ _ _ _ _ _ _ _ W).trans (l0 W hS)); simp only [List.getElem_toArray, List.getElem_cons_zero, List.getElem_cons_succ, Act.put, List.setIfInBounds_toArray, List.set_cons_zero, List.set_cons_succ]
        refine wpAnyH_all (rs := [4]) (by kernel_rfl) (by simp) ?_
        intro i4 hi4
        obtain rfl : i4 = 4 := by simpa using hi4
        refine op_goes rfl (by rfl) ?_
        go_simp
        refine (CW.out x0 _ S0).mono ?_
        rintro e y1 ⟨B1, k1, rfl, hr, hb⟩
        have R1 := Lib.hid hr
        clear hr
        have S1 := S0.trans (hb.mono S0.size)
        clear hb
        dsimp only
        refine ⟨S1, ?_⟩
        refine wpAnyH_all (rs := [5]) (by kernel_rfl) (by simp) ?_
        intro i5 hi5
        obtain rfl : i5 = 5 := by simpa using hi5
        refine op_goes rfl (by rfl) ?_
        go_simp
        refine (CM8.out x0 _ _ _ S1 R1.out).mono ?_
        rintro e y2 ⟨rfl, hb⟩
        rw [M80.out]
        have S2 := S1.trans (hb.mono S1.size)
        clear hb
        dsimp only
        refine ⟨S2, ?_⟩
        refine aT 6 (.bool true) rfl ?_; simp only [List.getElem_toArray, List.getElem_cons_zero, List.getElem_cons_succ, Act.put, List.setIfInBounds_toArray, List.set_cons_zero, List.set_cons_succ]
        refine aT 7 (.pointer (some ⟨w.heap.size + 1, 8, none⟩)) rfl ?_; simp only [List.getElem_toArray, List.getElem_cons_zero, List.getElem_cons_succ, Act.put, List.setIfInBounds_toArray, List.set_cons_zero, List.set_cons_succ]
        refine aT 8 (.agg (v4C x2).toArray) rfl ?_ (h2 := fun W hS => (load_is _ _ _ _ _ _ _ _ W).trans (l2 W hS)); simp only [List.getElem_toArray, List.getElem_cons_zero, List.getElem_cons_succ, Act.put, List.setIfInBounds_toArray, List.set_cons_zero, List.set_cons_succ]
        refine aT 9 (.pointer (some ⟨w.heap.size + 1, 0, none⟩)) rfl ?_; simp only [List.getElem_toArray, List.getElem_cons_zero, List.getElem_cons_succ, Act.put, List.setIfInBounds_toArray, List.set_cons_zero, List.set_cons_succ]
        refine aT 10 (.agg (v4C x0).toArray) rfl ?_ (h2 := fun W hS => (load_is _ _ _ _ _ _ _ _ W).trans (l0 W hS)); simp only [List.getElem_toArray, List.getElem_cons_zero, List.getElem_cons_succ, Act.put, List.setIfInBounds_toArray, List.set_cons_zero, List.set_cons_succ]
        refine aT 11 (.bool false) rfl ?_; simp only [List.getElem_toArray, List.getElem_cons_zero, List.getElem_cons_succ, Act.put, List.setIfInBounds_toArray, List.set_cons_zero, List.set_cons_succ]
        refine aT 12 (.bool false) rfl ?_; simp only [List.getElem_toArray, List.getElem_cons_zero, List.getElem_cons_succ, Act.put, List.setIfInBounds_toArray, List.set_cons_zero, List.set_cons_succ]
        refine aT 13 (.agg (stC (.slice D n c3) (calmS ds)).toArray) rfl ?_ (h2 := fun W hS => (load_is _ _ _ _ _ _ _ _ W).trans (e8 W hS)); simp only [List.getElem_toArray, List.getElem_cons_zero, List.getElem_cons_succ, Act.put, List.setIfInBounds_toArray, List.set_cons_zero, List.set_cons_succ]
        refine aT 14 (.func (.func 21) #[] #[.pointer (some ⟨b8, 0, none⟩), .pointer (some ⟨b7, 0, none⟩)]) rfl ?_; simp only [List.getElem_toArray, List.getElem_cons_zero, List.getElem_cons_succ, Act.put, List.setIfInBounds_toArray, List.set_cons_zero, List.set_cons_succ]
        refine aT 15 (.pointer (some ⟨w.heap.size + 1, 8, none⟩)) rfl ?_; simp only [List.getElem_toArray, List.getElem_cons_zero, List.getElem_cons_succ, Act.put, List.setIfInBounds_toArray, List.set_cons_zero, List.set_cons_succ]
        refine aT 16 (.agg (v4C x2).toArray) rfl ?_ (h2 := fun W hS => (load_is _ _ _ _ _ _ _ _ W).trans (l2 W hS)); simp only [List.getElem_toArray, List.getElem_cons_zero, List.getElem_cons_succ, Act.put, List.setIfInBounds_toArray, List.set_cons_zero, List.set_cons_succ]
        refine wpAnyH_all (rs := [17]) (by kernel_rfl) (by simp) ?_
        intro i17 hi17
        obtain rfl : i17 = 17 := by simpa using hi17
        refine op_goes rfl (by rfl) ?_
        go_simp
        refine (CW.out x2 _ S2).mono ?_
        rintro e y3 ⟨B3, k3, rfl, hr, hb⟩
        have R3 := Lib.hid hr
        clear hr
        have S3 := S2.trans (hb.mono S2.size)
        clear hb
        dsimp only
        refine ⟨S3, ?_⟩
        refine wpAnyH_all (rs := [18]) (by kernel_rfl) (by simp) ?_
        intro i18 hi18
        obtain rfl : i18 = 18 := by simpa using hi18
        refine op_goes rfl (by rfl) ?_
        go_simp
        refine (CM8.out x2 _ _ _ S3 R3.out).mono ?_
        rintro e y4 ⟨rfl, hb⟩
        rw [HD20.out]
        have S4 := S3.trans (hb.mono S3.size)
        clear hb
        dsimp only
        refine ⟨S4, ?_⟩
        refine aT 19 (.bool true) rfl ?_; simp only [List.getElem_toArray, List.getElem_cons_zero, List.getElem_cons_succ, Act.put, List.setIfInBounds_toArray, List.set_cons_zero, List.set_cons_succ]
        refine aT 20 (.bool true) rfl ?_; simp only [List.getElem_toArray, List.getElem_cons_zero, List.getElem_cons_succ, Act.put, List.setIfInBounds_toArray, List.set_cons_zero, List.set_cons_succ]
        refine aT 21 (.bool true) rfl ?_; simp only [List.getElem_toArray, List.getElem_cons_zero, List.getElem_cons_succ, Act.put, List.setIfInBounds_toArray, List.set_cons_zero, List.set_cons_succ]
        refine aT 22 (.bool true) rfl ?_; simp only [List.getElem_toArray, List.getElem_cons_zero, List.getElem_cons_succ, Act.put, List.setIfInBounds_toArray, List.set_cons_zero, List.set_cons_succ]
        refine aT 23 (.agg (stC (.slice E n c4) ⟨ds, true, t, x1⟩).toArray) rfl ?_ (h2 := fun W hS => (load_is _ _ _ _ _ _ _ _ W).trans (e9 W hS)); simp only [List.getElem_toArray, List.getElem_cons_zero, List.getElem_cons_succ, Act.put, List.setIfInBounds_toArray, List.set_cons_zero, List.set_cons_succ]
        refine aT 24 (.func (.func 21) #[] #[.pointer (some ⟨b8, 0, none⟩), .pointer (some ⟨b7, 0, none⟩)]) rfl ?_; simp only [List.getElem_toArray, List.getElem_cons_zero, List.getElem_cons_succ, Act.put, List.setIfInBounds_toArray, List.set_cons_zero, List.set_cons_succ]
        refine aT 25 (.pointer (some ⟨w.heap.size + 1, 0, none⟩)) rfl ?_; simp only [List.getElem_toArray, List.getElem_cons_zero, List.getElem_cons_succ, Act.put, List.setIfInBounds_toArray, List.set_cons_zero, List.set_cons_succ]
        refine aT 26 (.agg (v4C x0).toArray) rfl ?_ (h2 := fun W hS => (load_is _ _ _ _ _ _ _ _ W).trans (l0 W hS)); simp only [List.getElem_toArray, List.getElem_cons_zero, List.getElem_cons_succ, Act.put, List.setIfInBounds_toArray, List.set_cons_zero, List.set_cons_succ]
        refine wpAnyH_all (rs := [27]) (by kernel_rfl) (by simp) ?_
        intro i27 hi27
        obtain rfl : i27 = 27 := by simpa using hi27
        refine op_goes rfl (by rfl) ?_
        go_simp
        refine (CW.out x0 _ S4).mono ?_
        rintro e y5 ⟨B5, k5, rfl, hr, hb⟩
        have R5 := Lib.hid hr
        clear hr
        have S5 := S4.trans (hb.mono S4.size)
        clear hb
        dsimp only
        refine ⟨S5, ?_⟩
        refine wpAnyH_all (rs := [28]) (by kernel_rfl) (by simp) ?_
        intro i28 hi28
        obtain rfl : i28 = 28 := by simpa using hi28
        refine op_goes rfl (by rfl) ?_
        go_simp
        refine (CM9.out x0 _ _ _ S5 R5.out).mono ?_
        rintro e y6 ⟨rfl, hb⟩
        rw [M90.out]
        have S6 := S5.trans (hb.mono S5.size)
        clear hb
        dsimp only
        refine ⟨S6, ?_⟩
        refine aT 29 (.bool true) rfl ?_; simp only [List.getElem_toArray, List.getElem_cons_zero, List.getElem_cons_succ, Act.put, List.setIfInBounds_toArray, List.set_cons_zero, List.set_cons_succ]
        refine aT 30 (.bool true) rfl ?_; simp only [List.getElem_toArray, List.getElem_cons_zero, List.getElem_cons_succ, Act.put, List.setIfInBounds_toArray, List.set_cons_zero, List.set_cons_succ]
        refine aT 31 (.agg (stC (.slice E n c4) ⟨ds, true, t, x1⟩).toArray) rfl ?_ (h2 := fun W hS => (load_is _ _ _ _ _ _ _ _ W).trans (e9 W hS)); simp only [List.getElem_toArray, List.getElem_cons_zero, List.getElem_cons_succ, Act.put, List.setIfInBounds_toArray, List.set_cons_zero, List.set_cons_succ]
        refine aT 32 (.func (.func 21) #[] #[.pointer (some ⟨b8, 0, none⟩), .pointer (some ⟨b7, 0, none⟩)]) rfl ?_; simp only [List.getElem_toArray, List.getElem_cons_zero, List.getElem_cons_succ, Act.put, List.setIfInBounds_toArray, List.set_cons_zero, List.set_cons_succ]
        refine aT 33 (.pointer (some ⟨w.heap.size + 1, 4, none⟩)) rfl ?_; simp only [List.getElem_toArray, List.getElem_cons_zero, List.getElem_cons_succ, Act.put, List.setIfInBounds_toArray, List.set_cons_zero, List.set_cons_succ]
        refine aT 34 (.agg (v4C x1).toArray) rfl ?_ (h2 := fun W hS => (load_is _ _ _ _ _ _ _ _ W).trans (l1 W hS)); simp only [List.getElem_toArray, List.getElem_cons_zero, List.getElem_cons_succ, Act.put, List.setIfInBounds_toArray, List.set_cons_zero, List.set_cons_succ]
        refine wpAnyH_all (rs := [35]) (by kernel_rfl) (by simp) ?_
        intro i35 hi35
        obtain rfl : i35 = 35 := by simpa using hi35
        refine op_goes rfl (by rfl) ?_
        go_simp
        refine (CW.out x1 _ S6).mono ?_
        rintro e y7 ⟨B7, k7, rfl, hr, hb⟩
        have R7 := Lib.hid hr
        clear hr
        have S7 := S6.trans (hb.mono S6.size)
        clear hb
        dsimp only
        refine ⟨S7, ?_⟩
        refine wpAnyH_all (rs := [36]) (by kernel_rfl) (by simp) ?_
        intro i36 hi36
        obtain rfl : i36 = 36 := by simpa using hi36
        refine op_goes rfl (by rfl) ?_
        go_simp
        refine (CM9.out x1 _ _ _ S7 R7.out).mono ?_
        rintro e y8 ⟨rfl, hb⟩
        rw [M91.out]
        have S8 := S7.trans (hb.mono S7.size)
        clear hb
        dsimp only
        refine ⟨S8, ?_⟩
        refine aT 37 (.bool true) rfl ?_; simp only [List.getElem_toArray, List.getElem_cons_zero, List.getElem_cons_succ, Act.put, List.setIfInBounds_toArray, List.set_cons_zero, List.set_cons_succ]
        refine aT 38 (.bool true) rfl ?_; simp only [List.getElem_toArray, List.getElem_cons_zero, List.getElem_cons_succ, Act.put, List.setIfInBounds_toArray, List.set_cons_zero, List.set_cons_succ]
        refine aT 39 (.pointer (some ⟨w.heap.size + 1, 8, none⟩)) rfl ?_; simp only [List.getElem_toArray, List.getElem_cons_zero, List.getElem_cons_succ, Act.put, List.setIfInBounds_toArray, List.set_cons_zero, List.set_cons_succ]
        refine aT 40 (.agg (v4C x2).toArray) rfl ?_ (h2 := fun W hS => (load_is _ _ _ _ _ _ _ _ W).trans (l2 W hS)); simp only [List.getElem_toArray, List.getElem_cons_zero, List.getElem_cons_succ, Act.put, List.setIfInBounds_toArray, List.set_cons_zero, List.set_cons_succ]
        refine aT 41 (.pointer (some ⟨w.heap.size + 1, 0, none⟩)) rfl ?_; simp only [List.getElem_toArray, List.getElem_cons_zero, List.getElem_cons_succ, Act.put, List.setIfInBounds_toArray, List.set_cons_zero, List.set_cons_succ]
        refine aT 42 (.agg (v4C x0).toArray) rfl ?_ (h2 := fun W hS => (load_is _ _ _ _ _ _ _ _ W).trans (l0 W hS)); simp only [List.getElem_toArray, List.getElem_cons_zero, List.getElem_cons_succ, Act.put, List.setIfInBounds_toArray, List.set_cons_zero, List.set_cons_succ]
        refine aT 43 (.bool false) rfl ?_; simp only [List.getElem_toArray, List.getElem_cons_zero, List.getElem_cons_succ, Act.put, List.setIfInBounds_toArray, List.set_cons_zero, List.set_cons_succ]
        refine aT 44 (.bool false) rfl ?_; simp only [List.getElem_toArray, List.getElem_cons_zero, List.getElem_cons_succ, Act.put, List.setIfInBounds_toArray, List.set_cons_zero, List.set_cons_succ]
        refine aT 45 (.pointer (some ⟨w.heap.size + 1, 8, none⟩)) rfl ?_; simp only [List.getElem_toArray, List.getElem_cons_zero, List.getElem_cons_succ, Act.put, List.setIfInBounds_toArray, List.set_cons_zero, List.set_cons_succ]
        refine aT 46 (.agg (v4C x2).toArray) rfl ?_ (h2 := fun W hS => (load_is _ _ _ _ _ _ _ _ W).trans (l2 W hS)); simp only [List.getElem_toArray, List.getElem_cons_zero, List.getElem_cons_succ, Act.put, List.setIfInBounds_toArray, List.set_cons_zero, List.set_cons_succ]
        refine aT 47 (.pointer (some ⟨w.heap.size + 1, 4, none⟩)) rfl ?_; simp only [List.getElem_toArray, List.getElem_cons_zero, List.getElem_cons_succ, Act.put, List.setIfInBounds_toArray, List.set_cons_zero, List.set_cons_succ]
        refine aT 48 (.agg (v4C x1).toArray) rfl ?_ (h2 := fun W hS => (load_is _ _ _ _ _ _ _ _ W).trans (l1 W hS)); simp only [List.getElem_toArray, List.getElem_cons_zero, List.getElem_cons_succ, Act.put, List.setIfInBounds_toArray, List.set_cons_zero, List.set_cons_succ]
        refine aT 49 (.bool true) rfl ?_; simp only [List.getElem_toArray, List.getElem_cons_zero, List.getElem_cons_succ, Act.put, List.setIfInBounds_toArray, List.set_cons_zero, List.set_cons_succ]
        refine aT 50 (.bool true) rfl ?_; simp only [List.getElem_toArray, List.getElem_cons_zero, List.getElem_cons_succ, Act.put, List.setIfInBounds_toArray, List.set_cons_zero, List.set_cons_succ]
        refine aT 51 (.bool true) rfl ?_; simp only [List.getElem_toArray, List.getElem_cons_zero, List.getElem_cons_succ, Act.put, List.setIfInBounds_toArray, List.set_cons_zero, List.set_cons_succ]
        refine aU 52 rfl ?_; simp only [List.getElem_toArray, List.getElem_cons_zero, List.getElem_cons_succ, Act.put, List.setIfInBounds_toArray, List.set_cons_zero, List.set_cons_succ]
        refine aU 53 rfl ?_; simp only [List.getElem_toArray, List.getElem_cons_zero, List.getElem_cons_succ, Act.put, List.setIfInBounds_toArray, List.set_cons_zero, List.set_cons_succ]
        refine aU 54 rfl ?_; simp only [List.getElem_toArray, List.getElem_cons_zero, List.getElem_cons_succ, Act.put, List.setIfInBounds_toArray, List.set_cons_zero, List.set_cons_succ]
        refine aU 55 rfl ?_; simp only [List.getElem_toArray, List.getElem_cons_zero, List.getElem_cons_succ, Act.put, List.setIfInBounds_toArray, List.set_cons_zero, List.set_cons_succ]
        refine aU 56 rfl ?_; simp only [List.getElem_toArray, List.getElem_cons_zero, List.getElem_cons_succ, Act.put, List.setIfInBounds_toArray, List.set_cons_zero, List.set_cons_succ]
        refine aU 57 rfl ?_; simp only [List.getElem_toArray, List.getElem_cons_zero, List.getElem_cons_succ, Act.put, List.setIfInBounds_toArray, List.set_cons_zero, List.set_cons_succ]
        refine aU 58 rfl ?_; simp only [List.getElem_toArray, List.getElem_cons_zero, List.getElem_cons_succ, Act.put, List.setIfInBounds_toArray, List.set_cons_zero, List.set_cons_succ]
        refine aT 59 (.bool true) rfl ?_; simp only [List.getElem_toArray, List.getElem_cons_zero, List.getElem_cons_succ, Act.put, List.setIfInBounds_toArray, List.set_cons_zero, List.set_cons_succ]
        refine aT 60 (.bool true) rfl ?_; simp only [List.getElem_toArray, List.getElem_cons_zero, List.getElem_cons_succ, Act.put, List.setIfInBounds_toArray, List.set_cons_zero, List.set_cons_succ]
        refine aT 61 (.bool true) rfl ?_; simp only [List.getElem_toArray, List.getElem_cons_zero, List.getElem_cons_succ, Act.put, List.setIfInBounds_toArray, List.set_cons_zero, List.set_cons_succ]
        refine wpAnyH_done (by kernel_rfl) ?_ _
        have HSZ := Lib.hid S8
        go_wp2
        go_ret
        exact ⟨rfl, below_next HBV.out HSZ.out⟩
      · have d21 : decide (x2 = x1) = false := by simp [h21]
        rw [d21] at q21
        have M92 : Hid (decide (x2 = x0 ∨ x2 = x1) = false) := Lib.hid (by simp [h20, h21])
        clear d21 h20 h21
        refine wp_region_held_drew (S := fun W => Below V4.heap.size V4 W) (by kernel_rfl) SD ?_
        intro S0
        replace S0 : Below V4.heap.size V4 V4.drew := SD
        refine aT 0 (.agg (stC (.slice D n c3) (calmS ds)).toArray) rfl ?_ (h2 := fun W hS => (load_is _ _ _ _ _ _ _ _ W).trans (e8 W hS)); simp only [List.getElem_toArray, List.getElem_cons_zero, Act.put, List.setIfInBounds_toArray, List.set_cons_zero, List.set_cons_succ]
        refine aT 1 (.func (.func 21) #[] #[.pointer (some ⟨b8, 0, none⟩), .pointer (some ⟨b7, 0, none⟩)]) rfl ?_; simp only [List.getElem_toArray, List.getElem_cons_zero, List.getElem_cons_succ, Act.put, List.setIfInBounds_toArray, List.set_cons_zero, List.set_cons_succ]
        refine aT 2 (.pointer (some ⟨w.heap.size + 1, 0, none⟩)) rfl ?_; simp only [List.getElem_toArray, List.getElem_cons_zero, List.getElem_cons_succ, Act.put, List.setIfInBounds_toArray, List.set_cons_zero, List.set_cons_succ]
        refine aT 3 (.agg (v4C x0).toArray) rfl ?_ (h2 := fun W hS => (load_is _ _ _ _ _ _ _ _ W).trans (l0 W hS)); simp only [List.getElem_toArray, List.getElem_cons_zero, List.getElem_cons_succ, Act.put, List.setIfInBounds_toArray, List.set_cons_zero, List.set_cons_succ]
        refine wpAnyH_all (rs := [4]) (by kernel_rfl) (by simp) ?_
        intro i4 hi4
        obtain rfl : i4 = 4 := by simpa using hi4
        refine op_goes rfl (by rfl) ?_
        go_simp
        refine (CW.out x0 _ S0).mono ?_
        rintro e y1 ⟨B1, k1, rfl, hr, hb⟩
        have R1 := Lib.hid hr
        clear hr
        have S1 := S0.trans (hb.mono S0.size)
        clear hb
        dsimp only
        refine ⟨S1, ?_⟩
        refine wpAnyH_all (rs := [5]) (by kernel_rfl) (by simp) ?_
        intro i5 hi5
        obtain rfl : i5 = 5 := by simpa using hi5
        refine op_goes rfl (by rfl) ?_
        go_simp
        refine (CM8.out x0 _ _ _ S1 R1.out).mono ?_
        rintro e y2 ⟨rfl, hb⟩
        rw [M80.out]
        have S2 := S1.trans (hb.mono S1.size)
        clear hb
        dsimp only
        refine ⟨S2, ?_⟩
        refine aT 6 (.bool true) rfl ?_; simp only [List.getElem_toArray, List.getElem_cons_zero, List.getElem_cons_succ, Act.put, List.setIfInBounds_toArray, List.set_cons_zero, List.set_cons_succ]
        refine aT 7 (.pointer (some ⟨w.heap.size + 1, 8, none⟩)) rfl ?_; simp only [List.getElem_toArray, List.getElem_cons_zero, List.getElem_cons_succ, Act.put, List.setIfInBounds_toArray, List.set_cons_zero, List.set_cons_succ]
        refine aT 8 (.agg (v4C x2).toArray) rfl ?_ (h2 := fun W hS => (load_is _ _ _ _ _ _ _ _ W).trans (l2 W hS)); simp only [List.getElem_toArray, List.getElem_cons_zero, List.getElem_cons_succ, Act.put, List.setIfInBounds_toArray, List.set_cons_zero, List.set_cons_succ]
        refine aT 9 (.pointer (some ⟨w.heap.size + 1, 0, none⟩)) rfl ?_; simp only [List.getElem_toArray, List.getElem_cons_zero, List.getElem_cons_succ, Act.put, List.setIfInBounds_toArray, List.set_cons_zero, List.set_cons_succ]
        refine aT 10 (.agg (v4C x0).toArray) rfl ?_ (h2 := fun W hS => (load_is _ _ _ _ _ _ _ _ W).trans (l0 W hS)); simp only [List.getElem_toArray, List.getElem_cons_zero, List.getElem_cons_succ, Act.put, List.setIfInBounds_toArray, List.set_cons_zero, List.set_cons_succ]
        refine aT 11 (.bool false) rfl ?_; simp only [List.getElem_toArray, List.getElem_cons_zero, List.getElem_cons_succ, Act.put, List.setIfInBounds_toArray, List.set_cons_zero, List.set_cons_succ]
        refine aT 12 (.bool false) rfl ?_; simp only [List.getElem_toArray, List.getElem_cons_zero, List.getElem_cons_succ, Act.put, List.setIfInBounds_toArray, List.set_cons_zero, List.set_cons_succ]
        refine aT 13 (.agg (stC (.slice D n c3) (calmS ds)).toArray) rfl ?_ (h2 := fun W hS => (load_is _ _ _ _ _ _ _ _ W).trans (e8 W hS)); simp only [List.getElem_toArray, List.getElem_cons_zero, List.getElem_cons_succ, Act.put, List.setIfInBounds_toArray, List.set_cons_zero, List.set_cons_succ]
        refine aT 14 (.func (.func 21) #[] #[.pointer (some ⟨b8, 0, none⟩), .pointer (some ⟨b7, 0, none⟩)]) rfl ?_; simp only [List.getElem_toArray, List.getElem_cons_zero, List.getElem_cons_succ, Act.put, List.setIfInBounds_toArray, List.set_cons_zero, List.set_cons_succ]
        refine aT 15 (.pointer (some ⟨w.heap.size + 1, 8, none⟩)) rfl ?_; simp only [List.getElem_toArray, List.getElem_cons_zero, List.getElem_cons_succ, Act.put, List.setIfInBounds_toArray, List.set_cons_zero, List.set_cons_succ]
        refine aT 16 (.agg (v4C x2).toArray) rfl ?_ (h2 := fun W hS => (load_is _ _ _ _ _ _ _ _ W).trans (l2 W hS)); simp only [List.getElem_toArray, List.getElem_cons_zero, List.getElem_cons_succ, Act.put, List.setIfInBounds_toArray, List.set_cons_zero, List.set_cons_succ]
        refine wpAnyH_all (rs := [17]) (by kernel_rfl) (by simp) ?_
        intro i17 hi17
        obtain rfl : i17 = 17 := by simpa using hi17
        refine op_goes rfl (by rfl) ?_
        go_simp
        refine (CW.out x2 _ S2).mono ?_
        rintro e y3 ⟨B3, k3, rfl, hr, hb⟩
        have R3 := Lib.hid hr
        clear hr
        have S3 := S2.trans (hb.mono S2.size)
        clear hb
        dsimp only
        refine ⟨S3, ?_⟩
        refine wpAnyH_all (rs := [18]) (by kernel_rfl) (by simp) ?_
        intro i18 hi18
        obtain rfl : i18 = 18 := by simpa using hi18
        refine op_goes rfl (by rfl) ?_
        go_simp
        refine (CM8.out x2 _ _ _ S3 R3.out).mono ?_
        rintro e y4 ⟨rfl, hb⟩
        rw [HD20.out]
        have S4 := S3.trans (hb.mono S3.size)
        clear hb
        dsimp only
        refine ⟨S4, ?_⟩
        refine aT 19 (.bool true) rfl ?_; simp only [List.getElem_toArray, List.getElem_cons_zero, List.getElem_cons_succ, Act.put, List.setIfInBounds_toArray, List.set_cons_zero, List.set_cons_succ]
        refine aT 20 (.bool true) rfl ?_; simp only [List.getElem_toArray, List.getElem_cons_zero, List.getElem_cons_succ, Act.put, List.setIfInBounds_toArray, List.set_cons_zero, List.set_cons_succ]
        refine aT 21 (.bool true) rfl ?_; simp only [List.getElem_toArray, List.getElem_cons_zero, List.getElem_cons_succ, Act.put, List.setIfInBounds_toArray, List.set_cons_zero, List.set_cons_succ]
        refine aT 22 (.bool true) rfl ?_; simp only [List.getElem_toArray, List.getElem_cons_zero, List.getElem_cons_succ, Act.put, List.setIfInBounds_toArray, List.set_cons_zero, List.set_cons_succ]
        refine aT 23 (.agg (stC (.slice E n c4) ⟨ds, true, t, x1⟩).toArray) rfl ?_ (h2 := fun W hS => (load_is _ _ _ _ _ _ _ _ W).trans (e9 W hS)); simp only [List.getElem_toArray, List.getElem_cons_zero, List.getElem_cons_succ, Act.put, List.setIfInBounds_toArray, List.set_cons_zero, List.set_cons_succ]
        refine aT 24 (.func (.func 21) #[] #[.pointer (some ⟨b8, 0, none⟩), .pointer (some ⟨b7, 0, none⟩)]) rfl ?_; simp only [List.getElem_toArray, List.getElem_cons_zero, List.getElem_cons_succ, Act.put, List.setIfInBounds_toArray, List.set_cons_zero, List.set_cons_succ]
        refine aT 25 (.pointer (some ⟨w.heap.size + 1, 0, none⟩)) rfl ?_; simp only [List.getElem_toArray, List.getElem_cons_zero, List.getElem_cons_succ, Act.put, List.setIfInBounds_toArray, List.set_cons_zero, List.set_cons_succ]
        refine aT 26 (.agg (v4C x0).toArray) rfl ?_ (h2 := fun W hS => (load_is _ _ _ _ _ _ _ _ W).trans (l0 W hS)); simp only [List.getElem_toArray, List.getElem_cons_zero, List.getElem_cons_succ, Act.put, List.setIfInBounds_toArray, List.set_cons_zero, List.set_cons_succ]
        refine wpAnyH_all (rs := [27]) (by kernel_rfl) (by simp) ?_
        intro i27 hi27
        obtain rfl : i27 = 27 := by simpa using hi27
        refine op_goes rfl (by rfl) ?_
        go_simp
        refine (CW.out x0 _ S4).mono ?_
        rintro e y5 ⟨B5, k5, rfl, hr, hb⟩
        have R5 := Lib.hid hr
        clear hr
        have S5 := S4.trans (hb.mono S4.size)
        clear hb
        dsimp only
        refine ⟨S5, ?_⟩
        refine wpAnyH_all (rs := [28]) (by kernel_rfl) (by simp) ?_
        intro i28 hi28
        obtain rfl : i28 = 28 := by simpa using hi28
        refine op_goes rfl (by rfl) ?_
        go_simp
        refine (CM9.out x0 _ _ _ S5 R5.out).mono ?_
        rintro e y6 ⟨rfl, hb⟩
        rw [M90.out]
        have S6 := S5.trans (hb.mono S5.size)
        clear hb
        dsimp only
        refine ⟨S6, ?_⟩
        refine aT 29 (.bool true) rfl ?_; simp only [List.getElem_toArray, List.getElem_cons_zero, List.getElem_cons_succ, Act.put, List.setIfInBounds_toArray, List.set_cons_zero, List.set_cons_succ]
        refine aT 30 (.bool true) rfl ?_; simp only [List.getElem_toArray, List.getElem_cons_zero, List.getElem_cons_succ, Act.put, List.setIfInBounds_toArray, List.set_cons_zero, List.set_cons_succ]
        refine aT 31 (.agg (stC (.slice E n c4) ⟨ds, true, t, x1⟩).toArray) rfl ?_ (h2 := fun W hS => (load_is _ _ _ _ _ _ _ _ W).trans (e9 W hS)); simp only [List.getElem_toArray, List.getElem_cons_zero, List.getElem_cons_succ, Act.put, List.setIfInBounds_toArray, List.set_cons_zero, List.set_cons_succ]
        refine aT 32 (.func (.func 21) #[] #[.pointer (some ⟨b8, 0, none⟩), .pointer (some ⟨b7, 0, none⟩)]) rfl ?_; simp only [List.getElem_toArray, List.getElem_cons_zero, List.getElem_cons_succ, Act.put, List.setIfInBounds_toArray, List.set_cons_zero, List.set_cons_succ]
        refine aT 33 (.pointer (some ⟨w.heap.size + 1, 4, none⟩)) rfl ?_; simp only [List.getElem_toArray, List.getElem_cons_zero, List.getElem_cons_succ, Act.put, List.setIfInBounds_toArray, List.set_cons_zero, List.set_cons_succ]
        refine aT 34 (.agg (v4C x1).toArray) rfl ?_ (h2 := fun W hS => (load_is _ _ _ _ _ _ _ _ W).trans (l1 W hS)); simp only [List.getElem_toArray, List.getElem_cons_zero, List.getElem_cons_succ, Act.put, List.setIfInBounds_toArray, List.set_cons_zero, List.set_cons_succ]
        refine wpAnyH_all (rs := [35]) (by kernel_rfl) (by simp) ?_
        intro i35 hi35
        obtain rfl : i35 = 35 := by simpa using hi35
        refine op_goes rfl (by rfl) ?_
        go_simp
        refine (CW.out x1 _ S6).mono ?_
        rintro e y7 ⟨B7, k7, rfl, hr, hb⟩
        have R7 := Lib.hid hr
        clear hr
        have S7 := S6.trans (hb.mono S6.size)
        clear hb
        dsimp only
        refine ⟨S7, ?_⟩
        refine wpAnyH_all (rs := [36]) (by kernel_rfl) (by simp) ?_
        intro i36 hi36
        obtain rfl : i36 = 36 := by simpa using hi36
        refine op_goes rfl (by rfl) ?_
        go_simp
        refine (CM9.out x1 _ _ _ S7 R7.out).mono ?_
        rintro e y8 ⟨rfl, hb⟩
        rw [M91.out]
        have S8 := S7.trans (hb.mono S7.size)
        clear hb
        dsimp only
        refine ⟨S8, ?_⟩
        refine aT 37 (.bool true) rfl ?_; simp only [List.getElem_toArray, List.getElem_cons_zero, List.getElem_cons_succ, Act.put, List.setIfInBounds_toArray, List.set_cons_zero, List.set_cons_succ]
        refine aT 38 (.bool true) rfl ?_; simp only [List.getElem_toArray, List.getElem_cons_zero, List.getElem_cons_succ, Act.put, List.setIfInBounds_toArray, List.set_cons_zero, List.set_cons_succ]
        refine aT 39 (.pointer (some ⟨w.heap.size + 1, 8, none⟩)) rfl ?_; simp only [List.getElem_toArray, List.getElem_cons_zero, List.getElem_cons_succ, Act.put, List.setIfInBounds_toArray, List.set_cons_zero, List.set_cons_succ]
        refine aT 40 (.agg (v4C x2).toArray) rfl ?_ (h2 := fun W hS => (load_is _ _ _ _ _ _ _ _ W).trans (l2 W hS)); simp only [List.getElem_toArray, List.getElem_cons_zero, List.getElem_cons_succ, Act.put, List.setIfInBounds_toArray, List.set_cons_zero, List.set_cons_succ]
        refine aT 41 (.pointer (some ⟨w.heap.size + 1, 0, none⟩)) rfl ?_; simp only [List.getElem_toArray, List.getElem_cons_zero, List.getElem_cons_succ, Act.put, List.setIfInBounds_toArray, List.set_cons_zero, List.set_cons_succ]
        refine aT 42 (.agg (v4C x0).toArray) rfl ?_ (h2 := fun W hS => (load_is _ _ _ _ _ _ _ _ W).trans (l0 W hS)); simp only [List.getElem_toArray, List.getElem_cons_zero, List.getElem_cons_succ, Act.put, List.setIfInBounds_toArray, List.set_cons_zero, List.set_cons_succ]
        refine aT 43 (.bool false) rfl ?_; simp only [List.getElem_toArray, List.getElem_cons_zero, List.getElem_cons_succ, Act.put, List.setIfInBounds_toArray, List.set_cons_zero, List.set_cons_succ]
        refine aT 44 (.bool false) rfl ?_; simp only [List.getElem_toArray, List.getElem_cons_zero, List.getElem_cons_succ, Act.put, List.setIfInBounds_toArray, List.set_cons_zero, List.set_cons_succ]
        refine aT 45 (.pointer (some ⟨w.heap.size + 1, 8, none⟩)) rfl ?_; simp only [List.getElem_toArray, List.getElem_cons_zero, List.getElem_cons_succ, Act.put, List.setIfInBounds_toArray, List.set_cons_zero, List.set_cons_succ]
        refine aT 46 (.agg (v4C x2).toArray) rfl ?_ (h2 := fun W hS => (load_is _ _ _ _ _ _ _ _ W).trans (l2 W hS)); simp only [List.getElem_toArray, List.getElem_cons_zero, List.getElem_cons_succ, Act.put, List.setIfInBounds_toArray, List.set_cons_zero, List.set_cons_succ]
        refine aT 47 (.pointer (some ⟨w.heap.size + 1, 4, none⟩)) rfl ?_; simp only [List.getElem_toArray, List.getElem_cons_zero, List.getElem_cons_succ, Act.put, List.setIfInBounds_toArray, List.set_cons_zero, List.set_cons_succ]
        refine aT 48 (.agg (v4C x1).toArray) rfl ?_ (h2 := fun W hS => (load_is _ _ _ _ _ _ _ _ W).trans (l1 W hS)); simp only [List.getElem_toArray, List.getElem_cons_zero, List.getElem_cons_succ, Act.put, List.setIfInBounds_toArray, List.set_cons_zero, List.set_cons_succ]
        refine aT 49 (.bool false) rfl ?_; simp only [List.getElem_toArray, List.getElem_cons_zero, List.getElem_cons_succ, Act.put, List.setIfInBounds_toArray, List.set_cons_zero, List.set_cons_succ]
        refine aT 50 (.bool false) rfl ?_; simp only [List.getElem_toArray, List.getElem_cons_zero, List.getElem_cons_succ, Act.put, List.setIfInBounds_toArray, List.set_cons_zero, List.set_cons_succ]
        refine aT 51 (.bool false) rfl ?_; simp only [List.getElem_toArray, List.getElem_cons_zero, List.getElem_cons_succ, Act.put, List.setIfInBounds_toArray, List.set_cons_zero, List.set_cons_succ]
        refine aT 52 (.agg (stC (.slice E n c4) ⟨ds, true, t, x1⟩).toArray) rfl ?_ (h2 := fun W hS => (load_is _ _ _ _ _ _ _ _ W).trans (e9 W hS)); simp only [List.getElem_toArray, List.getElem_cons_zero, List.getElem_cons_succ, Act.put, List.setIfInBounds_toArray, List.set_cons_zero, List.set_cons_succ]
        refine aT 53 (.func (.func 21) #[] #[.pointer (some ⟨b8, 0, none⟩), .pointer (some ⟨b7, 0, none⟩)]) rfl ?_; simp only [List.getElem_toArray, List.getElem_cons_zero, List.getElem_cons_succ, Act.put, List.setIfInBounds_toArray, List.set_cons_zero, List.set_cons_succ]
        refine aT 54 (.pointer (some ⟨w.heap.size + 1, 8, none⟩)) rfl ?_; simp only [List.getElem_toArray, List.getElem_cons_zero, List.getElem_cons_succ, Act.put, List.setIfInBounds_toArray, List.set_cons_zero, List.set_cons_succ]
        refine aT 55 (.agg (v4C x2).toArray) rfl ?_ (h2 := fun W hS => (load_is _ _ _ _ _ _ _ _ W).trans (l2 W hS)); simp only [List.getElem_toArray, List.getElem_cons_zero, List.getElem_cons_succ, Act.put, List.setIfInBounds_toArray, List.set_cons_zero, List.set_cons_succ]
        refine wpAnyH_all (rs := [56]) (by kernel_rfl) (by simp) ?_
        intro i56 hi56
        obtain rfl : i56 = 56 := by simpa using hi56
        refine op_goes rfl (by rfl) ?_
        go_simp
        refine (CW.out x2 _ S8).mono ?_
        rintro e y9 ⟨B9, k9, rfl, hr, hb⟩
        have R9 := Lib.hid hr
        clear hr
        have S9 := S8.trans (hb.mono S8.size)
        clear hb
        dsimp only
        refine ⟨S9, ?_⟩
        refine wpAnyH_all (rs := [57]) (by kernel_rfl) (by simp) ?_
        intro i57 hi57
        obtain rfl : i57 = 57 := by simpa using hi57
        refine op_goes rfl (by rfl) ?_
        go_simp
        refine (CM9.out x2 _ _ _ S9 R9.out).mono ?_
        rintro e y10 ⟨rfl, hb⟩
        rw [M92.out]
        have S10 := S9.trans (hb.mono S9.size)
        clear hb
        dsimp only
        refine ⟨S10, ?_⟩
        refine aT 58 (.bool true) rfl ?_; simp only [List.getElem_toArray, List.getElem_cons_zero, List.getElem_cons_succ, Act.put, List.setIfInBounds_toArray, List.set_cons_zero, List.set_cons_succ]
        refine aT 59 (.bool true) rfl ?_; simp only [List.getElem_toArray, List.getElem_cons_zero, List.getElem_cons_succ, Act.put, List.setIfInBounds_toArray, List.set_cons_zero, List.set_cons_succ]
        refine aT 60 (.bool true) rfl ?_; simp only [List.getElem_toArray, List.getElem_cons_zero, List.getElem_cons_succ, Act.put, List.setIfInBounds_toArray, List.set_cons_zero, List.set_cons_succ]
        refine aT 61 (.bool true) rfl ?_; simp only [List.getElem_toArray, List.getElem_cons_zero, List.getElem_cons_succ, Act.put, List.setIfInBounds_toArray, List.set_cons_zero, List.set_cons_succ]
        refine wpAnyH_done (by kernel_rfl) ?_ _
        have HSZ := Lib.hid S10
        go_wp2
        go_ret
        exact ⟨rfl, below_next HBV.out HSZ.out⟩
  all_goals
    go_enter Try.func5, Try.ntmps5
    go_upto_region 1 with (fail)
    change Code.wp _ _ _ _ ((w.alloc (.cells (stC (.slice A s.sure.length c) s).toArray 26)).alloc (.cells vs.toArray 42))
    rw [← hW1]
    clear hW1
    go_wp2_with (go_at_call 9; (with_reducible refine AL.out.mono ?_); rintro e w1 ⟨rfl, hb⟩; have HB1 := Lib.hid (below_next HB0.out hb); have g0 : w1.cell? ⟨w.heap.size, 0, none⟩ = some (.slice A s.sure.length c) := (at_kept HA0.out hb).cell 0; clear hb)
    go_ret
    exact ⟨rfl, HB1.out⟩
end Go.Proofs.Ytakohcdopbckkaa
