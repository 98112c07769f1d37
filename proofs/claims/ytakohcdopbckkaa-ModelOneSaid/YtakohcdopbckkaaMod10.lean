/- The walk of ModelApart. -/
import Derived.Test.YtakohcdopbckkaaMod9
namespace Go.Proofs.Ytakohcdopbckkaa
open Go.RowKit Bm

theorem same_lit (xs : List V4) (A : Option Addr) (c : Nat) (B : Option Addr) (d : Nat) (w : World) (hR : v4K.Reads w A xs.length c xs) (hL : v4K.Reads w B xs.length d xs) (hn : xs.length ≤ 50000) :
    Calls Try.prog 12 #[.agg #[.slice A xs.length c, .bool false, .int .i64 0, .int .u32 0, .int .u32 0, .int .u32 0, .int .u32 0], .agg #[.slice B xs.length d, .bool false, .int .i64 0, .int .u32 0, .int .u32 0, .int .u32 0, .int .u32 0]] w fun e w' => e = .returned (.bool true) ∧ Below w.heap.size w w' := same_yes (calmS xs) A c B d w hR hL hn
theorem sBegun_sure (s : StM) (i : Int) (v : V4) : (sBegun s i v).sure = s.sure := by unfold sBegun; split <;> rfl
theorem sDone_len (s : StM) (i : Int) (v : V4) : (sDone s i v).sure.length = s.sure.length := by unfold sDone; split <;> simp [calmS]
theorem sDone_nth (s : StM) (i : Int) (v : V4) (j : Nat) (hj : j < s.sure.length) : v4K.nth (sDone s i v).sure j = if (j : Int) = i then v else v4K.nth s.sure j := by
  unfold sDone
  by_cases h : isAt s i
  · rw [if_pos h]
    show v4K.nth (s.sure.set i.toNat v) j = _
    have h1 := h.1
    have h2 := h.2
    rw [v4K.nth_set _ (by omega)]
    by_cases e : (j : Int) = i
    · rw [if_pos e, if_pos (by omega)]
    · rw [if_neg e, if_neg (by omega)]
  · rw [if_neg h, if_neg]
    rintro rfl
    exact h ⟨by omega, by omega⟩

def R2v (w : World) (cs vs : List Value) : World := (w.alloc (.cells cs.toArray 26)).alloc (.cells vs.toArray 24)
theorem R2v_a (w : World) (cs vs : List Value) : At (R2v w cs vs) w.heap.size 26 cs := (At.news w _ _).alloc _
theorem R2v_b (w : World) (cs vs : List Value) : At (R2v w cs vs) (w.heap.size + 1) 24 vs := At.alloc_new _ _ _ (by rw [World.size_alloc]) rfl
theorem R2v_size (w : World) (cs vs : List Value) : (R2v w cs vs).heap.size = w.heap.size + 2 := by unfold R2v; rw [World.size_alloc, World.size_alloc]
theorem R2v_below (w : World) (cs vs : List Value) : Below w.heap.size w (R2v w cs vs) := below_two w _ _
theorem at_kept {w w' : World} {b : Nat} {t : TypeId} {cs : List Value} (h : At w b t cs) (hB : Below w.heap.size w w') : At w' b t cs := h.kept (Turned.of_below hB (Nat.le_refl _) NoBlock) (fun h => h)
/-- A new variable, stored into at once. -/
theorem below_var {w V : World} {t : TypeId} {cs : List Value} (h : Turned (Just w.heap.size) (w.alloc (.cells cs.toArray t)) V) : Below w.heap.size w V := ((Below.refl _ w).alloc (Nat.le_refl _) _).trans (below_just h (Nat.le_refl _) (by simp))

set_option maxRecDepth 100000 in
set_option maxHeartbeats 4000000 in
theorem modelApart_walk (A : Option Addr) (c : Nat) (s : StM) (_ : (Lit.int .i64 s.at_).wf = true) (i : Int) (_ : (Lit.int .i64 i).wf = true) (v : V4) (w : World) (hR : v4K.Reads w A s.sure.length c s.sure) : Calls Try.prog 7 #[.agg (stC (.slice A s.sure.length c) s).toArray, .int .i64 i, .agg (v4C v).toArray] w fun e w' => e = .returned (.bool true) ∧ Below w.heap.size w w' := by
  obtain ⟨W0, hW0⟩ : ∃ W0, W0 = R2v w (stC (.slice A s.sure.length c) s) (v4C v) := ⟨_, rfl⟩
  have A0 := R2v_a w (stC (.slice A s.sure.length c) s) (v4C v)
  have A1 := R2v_b w (stC (.slice A s.sure.length c) s) (v4C v)
  have B0 := R2v_below w (stC (.slice A s.sure.length c) s) (v4C v)
  have s0 := R2v_size w (stC (.slice A s.sure.length c) s) (v4C v)
  have hW1 := hW0
  unfold R2v at hW1
  rw [← hW0] at A0 A1 B0 s0
  have hz := st_zero
  have hnm : (s.sure.length : Int) ≤ 9223372036854775807 := by have := hR.le; have := hR.max; unfold maxLen at *; omega
  have HA0 := Lib.hid A0
  have HA1 := Lib.hid A1
  have HB0 := Lib.hid B0
  have HS0 := Lib.hid s0
  have HR0 := Lib.hid (hR.kept B0)
  have AL := Lib.hid (alive9_any W0)
  clear A0 A1 B0 s0 hR hW0
  by_cases hn : (s.sure.length : Int) ≤ 60
  · have hs50 : s.sure.length ≤ 50000 := by omega
    obtain ⟨i0, hin, hz0, hz1, hz2⟩ := info_parts v4_infoA
    go_enter Try.func7, Try.ntmps7
    go_upto_region 1 with (fail)
    change Code.wp _ _ _ _ ((w.alloc (.cells (stC (.slice A s.sure.length c) s).toArray 26)).alloc (.cells (v4C v).toArray 24))
    rw [← hW1]
    clear hW1
    go_wp2_with (first
      | (go_at_call 9; (with_reducible refine AL.out.mono ?_); rintro e w1 ⟨rfl, hb⟩; have HB1 := Lib.hid hb; have HA2 := Lib.hid (at_kept HA0.out hb); have HA3 := Lib.hid (at_kept HA1.out hb); have HR1 := Lib.hid (HR0.out.kept hb); have g0 : w1.cell? ⟨w.heap.size, 0, none⟩ = some (.slice A s.sure.length c) := HA2.out.cell 0; clear hb)
      | (at_builtin; refine halt_here ?_))
    refine Lib.hid ?_
    refine wpList_join (K := v4K) (base := w1.heap.size) (xs := []) (ys := s.sure) _ (.tmp 18) rfl rfl Try.underlying22 hin hz0 hz1 hz2 (by rfl) (by omega) (v := .slice none 0 0) (by rfl) (World.ownsRow_nil _ _ _ _) (by rfl) HR1.out (by simp; omega) (Nat.le_refl _) ?_
    intro K kc w2 h3 h4 h5
    have e : ([] : List V4).length + s.sure.length = s.sure.length := Nat.zero_add _
    rw [e, List.nil_append] at h3
    rw [e]
    obtain ⟨K', kc', e3, hkr, _⟩ := Kd.Reads.of_own (K := v4K) h3 rfl
    cases e3
    have HK2 := Lib.hid hkr
    have HB2 := Lib.hid (below_next HB1.out h4)
    have HA4 := Lib.hid (at_kept HA2.out h4)
    have HA5 := Lib.hid (at_kept HA3.out h4)
    have HR2 := Lib.hid (HR1.out.kept h4)
    have DN := done4_any A c s i v w2 HR2.out hs50
    have HDN := Lib.hid DN
    simp only [Act.put, List.setIfInBounds_toArray, List.set_cons_zero, List.set_cons_succ]
    clear h3 h4 h5 e hkr DN
    go_upto_region 7 with (first
      | (refine wpList_ldr (xs := stC (.slice A s.sure.length c) s) _ rfl rfl rfl Try.underlying26 rfl rs_size (stC_len _ _) HA4.out.rng0 ?_)
      | (refine wpList_ldr (xs := v4C v) _ rfl rfl rfl Try.underlying24 rfl v4_size (v4_len _) HA5.out.rng0 ?_)
      | (go_at_call 13; (with_reducible refine HDN.out.mono ?_); intro e w3 h; obtain ⟨D, c3, rfl, hr, hb⟩ := h.theirs; rw [sDone_len] at hr ⊢; have HR3 := Lib.hid hr; have HB3 := Lib.hid hb; clear h hr hb)
      | (refine wpList_stm (pre := []) (post := []) (xs := stC (.slice none 0 0) st0) (ys := stC (.slice D s.sure.length c3) (sDone s i v)) _ _ rfl rfl rfl rfl st_size (by rfl) (stC_len _ _) (stC_one _) rfl (by simp) (At.news w3 _ _) ?_; intro V A9 T9; rw [List.nil_append, List.append_nil] at A9; have HA9 := Lib.hid A9; have HT9 := Lib.hid T9; clear A9 T9))
    have hb3 : Below w2.heap.size w2 V := HB3.out.trans ((below_var HT9.out).mono HB3.out.size)
    obtain ⟨b8, hb8⟩ : ∃ b8, b8 = w3.heap.size := ⟨_, rfl⟩
    have hx8 := HA9.out
    rw [← hb8] at hx8 ⊢
    have HX8 := Lib.hid hx8
    have HX0 := Lib.hid (at_kept HA4.out hb3)
    have HX1 := Lib.hid (at_kept HA5.out hb3)
    have HRS := Lib.hid (HR2.out.kept hb3)
    have HRK := Lib.hid (HK2.out.kept hb3)
    have HRX := Lib.hid (HR3.out.kept (below_var HT9.out))
    have HBV := Lib.hid (below_next (HB0.out.trans (HB2.out.mono HB0.out.size)) hb3)
    have g1 : V.cell? ⟨w.heap.size, 0, none⟩ = some (.slice A s.sure.length c) := HX0.out.cell 0
    have g8 : V.cell? ⟨b8, 0, none⟩ = some (.slice D s.sure.length c3) := hx8.cell 0
    clear hb3 hb8 hx8 HA9 HT9 HB3 HR3 HDN HR2 HA5 HA4 HB2 HK2 g0 HR1 HA3 HA2 HB1 HA0 HA1 HR0 AL HB0
    simp only [Act.put]
    go_wp2
    go_loopw [34] (fun i wr => ∃ j : Nat, j ≤ s.sure.length ∧ i = .int .i64 j ∧ Below V.heap.size V wr) (fun i _ => s.sure.length - (intOf i).toNat)
    case atStart => exact ⟨0, by omega, rfl, Below.refl _ _⟩
    case round =>
      obtain ⟨j, hj, rfl, hB⟩ := hrel
      have HB := Lib.hid hB
      have k0 : wr.cell? ⟨w.heap.size, 0, none⟩ = some (.slice A s.sure.length c) := (at_kept HX0.out hB).cell 0
      by_cases hlt : j < s.sure.length
      · obtain ⟨gk, ok, rfl, _, hrk⟩ := (HRK.out.kept hB).at_ hlt
        obtain ⟨gx, ox, rfl, _, hrx⟩ := (HRX.out.kept hB).at_ hlt
        have i0 : (0 : Int) ≤ (j : Int) := by omega
        have i1 : (j : Int) < (s.sure.length : Int) := by omega
        have k8 : wr.cell? ⟨b8, 0, none⟩ = some (.slice (some ⟨gx, ox, none⟩) s.sure.length c3) := (at_kept HX8.out hB).cell 0
        have hv := (at_kept HX1.out hB).rng0
        rw [sDone_nth s i v j hlt] at hrx
        obtain ⟨y, hy⟩ : ∃ y, y = v4K.nth s.sure j := ⟨_, rfl⟩
        rw [← hy] at hrk hrx
        obtain ⟨l0, l1, l2, l3⟩ := v4_cells (off := ok + j * 4) hrk
        obtain ⟨n0, n1, n2, n3⟩ := v4_cells hv
        simp only [Nat.zero_add] at n0 n1 n2 n3
        clear hy hrk hv hB
        by_cases he : (j : Int) = i
        · have he1 : ((j : Int) != i) = false := by rw [bne_eq_false_iff_eq]; exact he
          have he2 : ((j : Int) == i) = true := by rw [beq_iff_eq]; exact he
          rw [if_pos he] at hrx
          obtain ⟨m0, m1, m2, m3⟩ := v4_cells (off := ox + j * 4) hrx
          have qe := fun W => run_eqv v v W
          simp only [decide_true] at qe
          clear he hrx
          go_wp2
          go_quiet (fail)
          go_wp2
          go_roundw
          case rel => exact ⟨j + 1, by omega, by go_num, HB.out.trans (Kd.drewB _ _ _)⟩
          case measure => simp [intOf]; omega
        · have he1 : ((j : Int) != i) = true := by rw [bne_iff_ne]; exact he
          have he2 : ((j : Int) == i) = false := by rw [beq_eq_false_iff_ne]; exact he
          rw [if_neg he] at hrx
          obtain ⟨m0, m1, m2, m3⟩ := v4_cells (off := ox + j * 4) hrx
          have qe := fun W => run_eqv y y W
          simp only [decide_true] at qe
          clear he hrx
          go_wp2
          go_quiet (fail)
          go_wp2
          go_roundw
          case rel => exact ⟨j + 1, by omega, by go_num, HB.out.trans (Kd.drewB _ _ _)⟩
          case measure => simp [intOf]; omega
      · obtain rfl : j = s.sure.length := by omega
        have HY0 := Lib.hid (at_kept HX0.out hB)
        have HY1 := Lib.hid (at_kept HX1.out hB)
        have HSB := Lib.hid (HRS.out.kept hB)
        have HKB := Lib.hid (HRK.out.kept hB)
        have HBW := Lib.hid (below_next HBV.out hB)
        have HDN := Lib.hid (begun4_any A c s i v wr HSB.out hs50)
        have HBS := Lib.hid (sBegun_sure s i v)
        clear hB
        go_upto_region 16 with (first
          | (refine wpList_ldr (xs := stC (.slice A s.sure.length c) s) _ rfl rfl rfl Try.underlying26 rfl rs_size (stC_len _ _) HY0.out.rng0 ?_)
          | (refine wpList_ldr (xs := v4C v) _ rfl rfl rfl Try.underlying24 rfl v4_size (v4_len _) HY1.out.rng0 ?_)
          | (go_at_call 15; (with_reducible refine HDN.out.mono ?_); intro e w4 h; obtain ⟨E, c4, rfl, hr, hb⟩ := h.theirs; rw [HBS.out] at hr ⊢; have HR4 := Lib.hid hr; have HB4 := Lib.hid hb; clear h hr hb)
          | (refine wpList_stm (pre := []) (post := []) (xs := stC (.slice none 0 0) st0) (ys := stC (.slice E s.sure.length c4) (sBegun s i v)) _ _ rfl rfl rfl rfl st_size (by rfl) (stC_len _ _) (stC_one _) rfl (by simp) (At.news w4 _ _) ?_; intro V4 A9 T9; rw [List.nil_append, List.append_nil] at A9; have HA9 := Lib.hid A9; have HT9 := Lib.hid T9; clear A9 T9))
        have hb4 : Below wr.heap.size wr V4 := HB4.out.trans ((below_var HT9.out).mono HB4.out.size)
        have HK4 := Lib.hid (HKB.out.kept hb4)
        have HS4 := Lib.hid (HSB.out.kept hb4)
        have HE4 := Lib.hid (HR4.out.kept (below_var HT9.out))
        have HY4 := Lib.hid (at_kept HY0.out hb4)
        have HBX := Lib.hid (below_next HBW.out hb4)
        have q9 : V4.cell? ⟨w4.heap.size, 0, none⟩ = some (.slice E s.sure.length c4) := HA9.out.cell 0
        clear hb4 k0
        go_wp2_with (first
          | (go_at_call 12; (with_reducible refine (same_lit s.sure _ _ _ _ _ HE4.out HK4.out hs50).mono ?_); rintro e w5 ⟨rfl, hb⟩; have HS5 := Lib.hid (HS4.out.kept hb); have HK5 := Lib.hid (HK4.out.kept hb); have HB5 := Lib.hid (below_next HBX.out hb); have r0 : w5.cell? ⟨w.heap.size, 0, none⟩ = some (.slice A s.sure.length c) := (at_kept HY4.out hb).cell 0; clear hb)
          | (go_at_call 12; (with_reducible refine (same_lit s.sure _ _ _ _ _ HS5.out HK5.out hs50).mono ?_); rintro e w6 ⟨rfl, hb⟩; have HB6 := Lib.hid (below_next HB5.out hb); clear hb))
        go_ret
        exact ⟨rfl, HB6.out⟩
  · have hn' : (60 : Int) < (s.sure.length : Int) := by omega
    go_enter Try.func7, Try.ntmps7
    go_upto_region 1 with (fail)
    change Code.wp _ _ _ _ ((w.alloc (.cells (stC (.slice A s.sure.length c) s).toArray 26)).alloc (.cells (v4C v).toArray 24))
    rw [← hW1]
    clear hW1
    go_wp2_with (go_at_call 9; (with_reducible refine AL.out.mono ?_); rintro e w1 ⟨rfl, hb⟩; have HB1 := Lib.hid (HB0.out.trans (hb.mono HB0.out.size)); have g0 : w1.cell? ⟨w.heap.size, 0, none⟩ = some (.slice A s.sure.length c) := (at_kept HA0.out hb).cell 0; clear hb)
    go_ret
    exact ⟨rfl, HB1.out⟩
end Go.Proofs.Ytakohcdopbckkaa
