/- Contracts of the document's Seen and New (layer model). -/
import Derived.Test.YtakohcdopbckkaaMod6
import Derived.Test.YtakohcdopbckkaaMod3
namespace Go.Proofs.Ytakohcdopbckkaa
open Go.RowKit Bm

/-- What the document's Seen hands back. -/
def TheirsB (s : StM) (b : Bool) (w : World) (e : Ending) (w' : World) : Prop :=
  ∃ B cap, e = .returned (.tuple #[.agg (stC (.slice B s.sure.length cap) s).toArray, .bool b]) ∧ v4K.Reads w' B s.sure.length cap s.sure ∧ Below w.heap.size w w'

def R2z (w : World) (cs : List Value) : World := (w.alloc (.cells cs.toArray 26)).alloc (.cells (stC (.slice none 0 0) st0).toArray 26)
theorem R2z_a (w : World) (cs : List Value) : At (R2z w cs) w.heap.size 26 cs := (At.news w _ _).alloc _
theorem R2z_b (w : World) (cs : List Value) : At (R2z w cs) (w.heap.size + 1) 26 (stC (.slice none 0 0) st0) := At.alloc_new _ _ _ (by rw [World.size_alloc]) rfl
theorem R2z_size (w : World) (cs : List Value) : (R2z w cs).heap.size = w.heap.size + 2 := by unfold R2z; rw [World.size_alloc, World.size_alloc]
theorem R2z_below (w : World) (cs : List Value) : Below w.heap.size w (R2z w cs) := below_two w _ _

set_option maxRecDepth 100000 in
set_option maxHeartbeats 1000000 in
theorem rseen4_any (A : Option Addr) (c : Nat) (s : StM) (B : Option Addr) (cb : Nat) (l : List V4) (w : World) (hR : v4K.Reads w A s.sure.length c s.sure) (hL : v4K.Reads w B l.length cb l) (hn : l.length ≤ 50000) :
    Calls Try.prog 11 #[.agg (stC (.slice A s.sure.length c) s).toArray, .slice B l.length cb] w (TheirsB (sSeen s l) (decide (sMay s l)) w) := by
  obtain ⟨W0, hW0⟩ : ∃ W0, W0 = R2z w (stC (.slice A s.sure.length c) s) := ⟨_, rfl⟩
  have A0 := R2z_a w (stC (.slice A s.sure.length c) s)
  have A1 := R2z_b w (stC (.slice A s.sure.length c) s)
  have B0 := R2z_below w (stC (.slice A s.sure.length c) s)
  have s0 := R2z_size w (stC (.slice A s.sure.length c) s)
  have hz := rs_zero
  have hb := run_rs
  have hW1 := hW0
  unfold R2z at hW1
  rw [← hW0] at A0 A1 B0 s0
  have HA0 := Lib.hid A0
  have HA1 := Lib.hid A1
  have HB0 := Lib.hid B0
  have HS0 := Lib.hid s0
  have hm := rmay4_any A c s B cb l W0 (hR.kept B0) (hL.kept B0) hn
  have HRA := Lib.hid hR
  have HRB := Lib.hid hL
  clear A0 A1 B0 s0 hR hL hn hW0
  by_cases hmay : sMay s l
  · have hd : decide (sMay s l) = true := by simp [hmay]
    have hs : sSeen s l = calmS l := by unfold sSeen; rw [if_pos hmay]
    rw [hd] at hm
    have HM := Lib.hid hm
    rw [hd, hs]
    clear hm hd hs hmay
    go_enter Try.func11, Try.ntmps11
    go_upto_region 1 with (fail)
    change Code.wp _ _ _ _ ((w.alloc (.cells (stC (.slice A s.sure.length c) s).toArray 26)).alloc (.cells (stC (.slice none 0 0) st0).toArray 26))
    rw [← hW1]
    clear hW1
    go_wp2_with (first
      | (refine wpList_ldr (xs := stC (.slice A s.sure.length c) s) _ rfl rfl rfl Try.underlying26 rfl rs_size (stC_len _ _) HA0.out.rng0 ?_)
      | (go_at_call 18; (with_reducible refine Calls.mono HM.out ?_); rintro e w1 ⟨rfl, h1⟩; have HB1 := Lib.hid h1; have HA2 := Lib.hid (HA1.out.kept (Turned.of_below h1 (Nat.le_refl _) NoBlock) (fun h => h)); clear h1)
      | (refine wpList_stm (pre := []) (post := []) (xs := stC (.slice none 0 0) st0) (ys := stC (.slice B l.length cb) st0) _ _ rfl rfl rfl rfl rs_size (by rfl) (stC_len _ _) (stC_one _) rfl (by simp) HA2.out ?_; intro V4 A8 T8; rw [List.nil_append, List.append_nil] at A8; have HA8 := Lib.hid A8; have HT8 := Lib.hid T8; clear A8 T8))
    refine bodyPost_ret (res_cell2 Try.results11 _ Try.underlying26 rfl rs_size rfl rfl HA8.out (stC_len _ _)) rfl ?_
    have h0 := HS0.out
    have h1 := HB1.out.size
    have hbv := (HB0.out.trans (HB1.out.mono (by omega))).trans (below_just HT8.out (by omega) (by omega))
    exact ⟨B, cb, rfl, HRB.out.kept hbv, hbv⟩
  · have hd : decide (sMay s l) = false := by simp [hmay]
    have hs : sSeen s l = s := by unfold sSeen; rw [if_neg hmay]
    rw [hd] at hm
    have HM := Lib.hid hm
    rw [hd, hs]
    clear hm hd hs hmay
    go_enter Try.func11, Try.ntmps11
    go_upto_region 1 with (fail)
    change Code.wp _ _ _ _ ((w.alloc (.cells (stC (.slice A s.sure.length c) s).toArray 26)).alloc (.cells (stC (.slice none 0 0) st0).toArray 26))
    rw [← hW1]
    clear hW1
    go_wp2_with (first
      | (refine wpList_ldr (xs := stC (.slice A s.sure.length c) s) _ rfl rfl rfl Try.underlying26 rfl rs_size (stC_len _ _) HA0.out.rng0 ?_)
      | (go_at_call 18; (with_reducible refine Calls.mono HM.out ?_); rintro e w1 ⟨rfl, h1⟩; have HB1 := Lib.hid h1; have HA2 := Lib.hid (HA1.out.kept (Turned.of_below h1 (Nat.le_refl _) NoBlock) (fun h => h)); have HA3 := Lib.hid (HA0.out.kept (Turned.of_below h1 (Nat.le_refl _) NoBlock) (fun h => h)); clear h1)
      | (refine wpList_ldr (xs := stC (.slice A s.sure.length c) s) _ rfl rfl rfl Try.underlying26 rfl rs_size (stC_len _ _) HA3.out.rng0 ?_)
      | (refine wpList_stm (pre := []) (post := []) (xs := stC (.slice none 0 0) st0) (ys := stC (.slice A s.sure.length c) s) _ _ rfl rfl rfl rfl rs_size (by rfl) (stC_len _ _) (stC_one _) rfl (by simp) HA2.out ?_; intro V4 A8 T8; rw [List.nil_append, List.append_nil] at A8; have HA8 := Lib.hid A8; have HT8 := Lib.hid T8; clear A8 T8))
    refine bodyPost_ret (res_cell2 Try.results11 _ Try.underlying26 rfl rs_size rfl rfl HA8.out (stC_len _ _)) rfl ?_
    have h0 := HS0.out
    have h1 := HB1.out.size
    have hbv := (HB0.out.trans (HB1.out.mono (by omega))).trans (below_just HT8.out (by omega) (by omega))
    exact ⟨A, c, rfl, HRA.out.kept hbv, hbv⟩

theorem run_v40 (w : World) : (Instr.build 24 #[]).run Try.prog w = .ok (.agg (v4C v40).toArray) w := by kernel_rfl
theorem rep_succ (k : Nat) (v : V4) : List.replicate k v ++ [v] = List.replicate (k + 1) v := by rw [List.replicate_succ']

set_option maxRecDepth 100000 in
set_option maxHeartbeats 1000000 in
theorem rnew4_any (n : Int) (w : World) : Calls Try.prog 20 #[.int .i64 n] w (Theirs (sNew n) w) := by
  obtain ⟨W0, hW0⟩ : ∃ W0, W0 = (w.alloc (.cells (stC (.slice none 0 0) st0).toArray 26)).alloc (.cells (stC (.slice none 0 0) st0).toArray 26) := ⟨_, rfl⟩
  have A0 : At W0 w.heap.size 26 (stC (.slice none 0 0) st0) := by rw [hW0]; exact (At.news w _ _).alloc _
  have A1 : At W0 (w.heap.size + 1) 26 (stC (.slice none 0 0) st0) := by rw [hW0]; exact At.alloc_new _ _ _ (by rw [World.size_alloc]) rfl
  have B0 : Below w.heap.size w W0 := by rw [hW0]; exact below_two w _ _
  have s0 : W0.heap.size = w.heap.size + 2 := by rw [hW0, World.size_alloc, World.size_alloc]
  have hz := rs_zero
  have hb := run_v40
  obtain ⟨i0, hin, hz0, hz1, hz2⟩ := info_parts v4_infoA
  have HA0 := Lib.hid A0
  have HA1 := Lib.hid A1
  have HB0 := Lib.hid B0
  have HS0 := Lib.hid s0
  clear A0 A1 B0 s0
  obtain ⟨k, hk⟩ : ∃ k, k = newN n := ⟨_, rfl⟩
  have hsn : sNew n = calmS (List.replicate k v40) := by rw [hk]; rfl
  rw [hsn]
  have hkl : ∀ j : Nat, j < k → (j : Int) < n ∧ j < 1000 := by intro j hj; rw [hk] at hj; unfold newN at hj; omega
  have hke : ((¬ (k : Int) < n)) ∨ ((k : Int) < n ∧ k = 1000) := by rw [hk]; unfold newN; omega
  have hk1 : k ≤ 1000 := by rw [hk]; unfold newN; omega
  have HKL := Lib.hid hkl
  have HKE := Lib.hid hke
  clear hk hsn hkl hke
  go_enter Try.func20, Try.ntmps20
  go_upto_region 2 with (fail)
  change Code.wp _ _ _ _ ((w.alloc (.cells (stC (.slice none 0 0) st0).toArray 26)).alloc (.cells (stC (.slice none 0 0) st0).toArray 26))
  rw [← hW0]
  clear hW0
  go_wp2
  go_loopw [4] (fun i wr => ∃ (j : Nat) (A : Option Addr) (cap : Nat), j ≤ k ∧ i = .int .i64 j ∧ At wr (w.heap.size + 1) 26 (stC (.slice A j cap) st0) ∧ wr.ownsRow W0.heap.size 24 4 (.slice A j cap) j (v4K.all (List.replicate j v40)) ∧ Below w.heap.size w wr ∧ W0.heap.size ≤ wr.heap.size ∧ At wr w.heap.size 26 (stC (.slice none 0 0) st0)) (fun i _ => k - (intOf i).toNat)
  case atStart => exact ⟨0, none, 0, by omega, rfl, HA1.out, World.ownsRow_nil _ _ _ _, HB0.out, Nat.le_refl _, HA0.out⟩
  case round =>
    obtain ⟨j, A, cap, hj, rfl, hA, hO, hB, hS, hA2⟩ := hrel
    have HA := Lib.hid hA
    have HO := Lib.hid hO
    have HB := Lib.hid hB
    have HS := Lib.hid hS
    have HA2 := Lib.hid hA2
    have c0 : wr.cell? ⟨w.heap.size + 1, 0, none⟩ = some (.slice A j cap) := hA.cell 0
    have ca : ∀ o, (wr.alloc o).cell? ⟨w.heap.size + 1, 0, none⟩ = some (.slice A j cap) := fun o => (hA.alloc o).cell 0
    clear hA hO hB hS hA2
    by_cases hlt : j < k
    · have h1 := (HKL.out j hlt).1
      have h2 := (HKL.out j hlt).2
      have h2' : (j : Int) < 1000 := by omega
      go_wp2_with (at_builtin; refine halt_here ?_)
      refine Lib.hid ?_
      have hE : At (wr.alloc (.cells #[] 24)) wr.heap.size 24 ([] ++ []) := At.news wr _ _
      have hb0 : Below wr.heap.size wr (wr.alloc (.cells #[] 24)) := (Below.refl _ wr).alloc (Nat.le_refl _) _
      obtain ⟨A', cap', eA, hr, _⟩ := Kd.Reads.of_own (K := v4K) HO.out (by rw [List.length_replicate])
      cases eA
      refine wpList_join (K := v4K) (base := wr.heap.size) (xs := []) (ys := List.replicate j v40) (.tmp 14) (.tmp 16) rfl rfl Try.underlying22 hin hz0 hz1 hz2 (by rfl) (by omega) (v := .slice (some ⟨wr.heap.size, 0, none⟩) 0 0) (by rfl) (own_of_at (xs := v4K.all []) (rest := []) hE (Nat.le_refl _) rfl rfl (Nat.le_refl _) (Nat.zero_le _)) (by rfl) (hr.kept hb0) (by simp; omega) (by simp) ?_
      intro B cap2 w2 h3 h4 h5
      have e : ([] : List V4).length + j = j := Nat.zero_add j
      rw [e, List.nil_append] at h3
      rw [e]
      have HO2 := Lib.hid h3
      have HB2 := Lib.hid (hb0.trans h4)
      simp only [Act.put, List.setIfInBounds_toArray, List.set_cons_zero, List.set_cons_succ]
      clear h3 h4 h5 hE hb0 e hr
      go_wp2_with (first
        | (refine wpList_build_one _ rfl rfl rfl Try.underlying22 hin hz0 hz1 (cs := (v4C v40).toArray) (by rfl) (by omega) (by omega) ?_)
        | (at_builtin; refine halt_here ?_))
      refine Lib.hid ?_
      refine wpList_snoc (K := v4K) (base := wr.heap.size) (xs := List.replicate j v40) (y := v40) Try.underlying22 hin hz0 hz1 hz2 (by rfl) (by omega) _ _ (by rfl) (by rfl) (by rfl) (by have := HO2.out.alloc (.cells (v4C v40).toArray 24); rw [List.length_replicate]; exact this) (by rfl) (At.news w2 _ _) (by rw [List.length_replicate]; omega) (by have := HB2.out.size; simp; omega) ?_
      intro g' cap3 w3 h3 h4
      simp only [Act.put, List.setIfInBounds_toArray, List.set_cons_zero, List.set_cons_succ]
      rw [rep_succ, List.length_replicate, List.length_replicate] at h3
      rw [List.length_replicate]
      have hb3 : Below wr.heap.size wr w3 := (HB2.out.alloc HB2.out.size _).trans h4
      have HO3 := Lib.hid h3
      have HB3 := Lib.hid hb3
      have HA3 := Lib.hid (HA.out.kept (Turned.of_below hb3 (Nat.le_refl _) NoBlock) (fun h => h))
      have HA4 := Lib.hid (HA2.out.kept (Turned.of_below hb3 (Nat.le_refl _) NoBlock) (fun h => h))
      have k0 : w3.cell? ⟨w.heap.size + 1, 0, none⟩ = some (.slice A j cap) := HA3.out.cell 0
      have f0 := HA3.out.frozen 0
      clear h3 h4 hb3
      go_wp2
      go_roundw
      case rel => exact ⟨j + 1, some ⟨g', 0, none⟩, cap3, by omega, by go_num, (HA3.out.put 0 _).as rfl, own_base (own_turned HO3.out (turned_set _ (w.heap.size + 1) 0 _) (fun i hi e => by have := HS0.out; have := HS.out; unfold Just at e; omega)) HS.out, (HB.out.trans (HB3.out.mono (by have := HS0.out; have := HS.out; omega))).trans (below_set 0 (by omega) (by have := HB3.out.size; have := HS0.out; have := HS.out; omega) _), by have := HB3.out.size; have := HS.out; simp; omega, HA4.out.far (by simp) _⟩
      case measure => simp [intOf]; omega
    · obtain rfl : j = k := by omega
      have fin : ∀ V, At V w.heap.size 26 (stC (.slice A j cap) st0) → Turned (Just w.heap.size) wr V → Theirs (calmS (List.replicate j v40)) w (.returned (.agg (stC (.slice A j cap) st0).toArray)) V := by
        intro V _ hT
        have h0 := HS0.out
        have h1 := HS.out
        obtain ⟨A', cap', eA, hr, _⟩ := Kd.Reads.of_own (K := v4K) (own_turned HO.out hT (fun i hi e => by unfold Just at e; omega)) (by rw [List.length_replicate])
        cases eA
        refine ⟨A, cap, ?_, ?_, HB.out.trans (below_just hT (Nat.le_refl _) HB.out.size)⟩
        · simp only [calmS, List.length_replicate]
          rfl
        · simp only [calmS, List.length_replicate]
          exact hr
      have FIN := Lib.hid fin
      clear fin
      rcases HKE.out with h | ⟨h, rfl⟩
      all_goals
        go_wp2_with (first
          | (refine wpList_ldr (xs := stC (.slice A _ cap) st0) _ rfl rfl rfl Try.underlying26 rfl rs_size (stC_len _ _) HA.out.rng0 ?_)
          | (refine wpList_stm (pre := []) (post := []) (xs := stC (.slice none 0 0) st0) (ys := stC (.slice A _ cap) st0) _ _ rfl rfl rfl rfl rs_size (by rfl) (stC_len _ _) (stC_one _) rfl (by simp) HA2.out ?_; intro V4 A8 T8; rw [List.nil_append, List.append_nil] at A8; have HA8 := Lib.hid A8; have HT8 := Lib.hid T8; clear A8 T8))
        exact bodyPost_ret (res_cell Try.results20 _ Try.underlying26 rfl rs_size rfl HA8.out (stC_len _ _)) rfl (FIN.out _ HA8.out HT8.out)
end Go.Proofs.Ytakohcdopbckkaa
