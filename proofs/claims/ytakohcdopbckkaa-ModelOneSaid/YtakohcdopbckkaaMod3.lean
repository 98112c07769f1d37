/- Contracts of the program's Seen and New (layer model). -/
import Derived.Test.YtakohcdopbckkaaMod2
namespace Go.Proofs.Ytakohcdopbckkaa
open Go.RowKit Bm

/-- What Seen hands back. -/
def OursB (s : StM) (b : Bool) (w : World) (e : Ending) (w' : World) : Prop :=
  ∃ B cap, e = .returned (.tuple #[.agg (stC (.slice B s.sure.length cap) s).toArray, .bool b]) ∧ w'.ownsRow w.heap.size 24 4 (.slice B s.sure.length cap) s.sure.length (v4K.all s.sure) ∧ Below w.heap.size w w'

def W2s (w : World) (cs : List Value) : World := (w.alloc (.cells cs.toArray 28)).alloc (.cells (stC (.slice none 0 0) st0).toArray 28)
theorem W2s_a (w : World) (cs : List Value) : At (W2s w cs) w.heap.size 28 cs := (At.news w _ _).alloc _
theorem W2s_b (w : World) (cs : List Value) : At (W2s w cs) (w.heap.size + 1) 28 (stC (.slice none 0 0) st0) := At.alloc_new _ _ _ (by rw [World.size_alloc]) rfl
theorem W2s_size (w : World) (cs : List Value) : (W2s w cs).heap.size = w.heap.size + 2 := by unfold W2s; rw [World.size_alloc, World.size_alloc]
theorem W2s_below (w : World) (cs : List Value) : Below w.heap.size w (W2s w cs) := below_two w _ _

set_option maxRecDepth 100000 in
set_option maxHeartbeats 1000000 in
theorem seen4_any (A : Option Addr) (c : Nat) (s : StM) (B : Option Addr) (cb : Nat) (l : List V4) (w : World) (hR : v4K.Reads w A s.sure.length c s.sure) (hL : v4K.Reads w B l.length cb l) (hn : l.length ≤ 50000) (hn2 : s.sure.length ≤ 50000) :
    Calls Try.prog 10 #[.agg (stC (.slice A s.sure.length c) s).toArray, .slice B l.length cb] w (OursB (sSeen s l) (decide (sMay s l)) w) := by
  obtain ⟨W0, hW0⟩ : ∃ W0, W0 = W2s w (stC (.slice A s.sure.length c) s) := ⟨_, rfl⟩
  have A0 := W2s_a w (stC (.slice A s.sure.length c) s)
  have A1 := W2s_b w (stC (.slice A s.sure.length c) s)
  have B0 := W2s_below w (stC (.slice A s.sure.length c) s)
  have s0 := W2s_size w (stC (.slice A s.sure.length c) s)
  have hz := st_zero
  have hb := run_st
  have hW1 := hW0
  unfold W2s at hW1
  rw [← hW0] at A0 A1 B0 s0
  have HA0 := Lib.hid A0
  have HA1 := Lib.hid A1
  have HB0 := Lib.hid B0
  have HS0 := Lib.hid s0
  have hm := may4_any A c s B cb l W0 (hR.kept B0) (hL.kept B0) hn
  have HRA := Lib.hid (hR.kept B0)
  have HRB := Lib.hid (hL.kept B0)
  have HN := Lib.hid hn
  have HN2 := Lib.hid hn2
  clear A0 A1 B0 s0 hR hL hn hn2 hW0
  by_cases hmay : sMay s l
  · have hd : decide (sMay s l) = true := by simp [hmay]
    have hs : sSeen s l = calmS l := by unfold sSeen; rw [if_pos hmay]
    rw [hd] at hm
    have HM := Lib.hid hm
    rw [hd, hs]
    clear hm hd hs hmay
    go_enter Try.func10, Try.ntmps10
    go_upto_region 1 with (fail)
    change Code.wp _ _ _ _ ((w.alloc (.cells (stC (.slice A s.sure.length c) s).toArray 28)).alloc (.cells (stC (.slice none 0 0) st0).toArray 28))
    rw [← hW1]
    clear hW1
    go_wp2_with (first
      | (refine wpList_ldr (xs := stC (.slice A s.sure.length c) s) _ rfl rfl rfl Try.underlying28 rfl st_size (stC_len _ _) HA0.out.rng0 ?_)
      | (go_at_call 17; (with_reducible refine Calls.mono HM.out ?_); rintro e w1 ⟨rfl, h1⟩; have HB1 := Lib.hid h1; have HA2 := Lib.hid (HA1.out.kept (Turned.of_below h1 (Nat.le_refl _) NoBlock) (fun h => h)); have HC := Lib.hid (clone4_any B l.length cb l w1 (HRB.out.kept h1) HN.out); clear h1)
      | (go_at_call 23; (with_reducible refine Calls.mono HC.out ?_); rintro e w2 ⟨D, cap, rfl, h2, h3⟩; have HO := Lib.hid h2; have HB2 := Lib.hid h3; have HA3 := Lib.hid (HA2.out.kept (Turned.of_below h3 (Nat.le_refl _) NoBlock) (fun h => h)); clear h2 h3)
      | (refine wpList_stm (pre := []) (post := []) (xs := stC (.slice none 0 0) st0) (ys := stC (.slice D l.length cap) st0) _ _ rfl rfl rfl rfl st_size (by rfl) (stC_len _ _) (stC_one _) rfl (by simp) HA3.out ?_; intro V4 A8 T8; rw [List.nil_append, List.append_nil] at A8; have HA8 := Lib.hid A8; have HT8 := Lib.hid T8; clear A8 T8))
    refine bodyPost_ret (res_cell2 Try.results10 _ Try.underlying28 rfl st_size rfl rfl HA8.out (stC_len _ _)) rfl ?_
    have h0 := HS0.out
    have h1 := HB1.out.size
    have h2 := HB2.out.size
    refine ⟨D, cap, rfl, ?_, ?_⟩
    · exact own_base (own_turned HO.out HT8.out (fun k hk e => by unfold Just at e; omega)) (by omega)
    · exact ((HB0.out.trans (HB1.out.mono (by omega))).trans (HB2.out.mono (by omega))).trans (below_just HT8.out (by omega) (by omega))
  · have hd : decide (sMay s l) = false := by simp [hmay]
    have hs : sSeen s l = s := by unfold sSeen; rw [if_neg hmay]
    rw [hd] at hm
    have HM := Lib.hid hm
    rw [hd, hs]
    clear hm hd hs hmay
    go_enter Try.func10, Try.ntmps10
    go_upto_region 1 with (fail)
    change Code.wp _ _ _ _ ((w.alloc (.cells (stC (.slice A s.sure.length c) s).toArray 28)).alloc (.cells (stC (.slice none 0 0) st0).toArray 28))
    rw [← hW1]
    clear hW1
    go_wp2_with (first
      | (refine wpList_ldr (xs := stC (.slice A s.sure.length c) s) _ rfl rfl rfl Try.underlying28 rfl st_size (stC_len _ _) HA0.out.rng0 ?_)
      | (go_at_call 17; (with_reducible refine Calls.mono HM.out ?_); rintro e w1 ⟨rfl, h1⟩; have HB1 := Lib.hid h1; have HA4 := Lib.hid (HA0.out.kept (Turned.of_below h1 (Nat.le_refl _) NoBlock) (fun h => h)); have HA2 := Lib.hid (HA1.out.kept (Turned.of_below h1 (Nat.le_refl _) NoBlock) (fun h => h)); have HC := Lib.hid (own4_any A c s w1 (HRA.out.kept h1) HN2.out); clear h1)
      | (refine wpList_ldr (xs := stC (.slice A s.sure.length c) s) _ rfl rfl rfl Try.underlying28 rfl st_size (stC_len _ _) HA4.out.rng0 ?_)
      | (go_at_call 22; (with_reducible refine Calls.mono HC.out ?_); rintro e w2 ⟨D, cap, rfl, h2, h3⟩; have HO := Lib.hid h2; have HB2 := Lib.hid h3; have HA3 := Lib.hid (HA2.out.kept (Turned.of_below h3 (Nat.le_refl _) NoBlock) (fun h => h)); clear h2 h3)
      | (refine wpList_stm (pre := []) (post := []) (xs := stC (.slice none 0 0) st0) (ys := stC (.slice D s.sure.length cap) s) _ _ rfl rfl rfl rfl st_size (by rfl) (stC_len _ _) (stC_one _) rfl (by simp) HA3.out ?_; intro V4 A8 T8; rw [List.nil_append, List.append_nil] at A8; have HA8 := Lib.hid A8; have HT8 := Lib.hid T8; clear A8 T8))
    refine bodyPost_ret (res_cell2 Try.results10 _ Try.underlying28 rfl st_size rfl rfl HA8.out (stC_len _ _)) rfl ?_
    have h0 := HS0.out
    have h1 := HB1.out.size
    have h2 := HB2.out.size
    refine ⟨D, cap, rfl, ?_, ?_⟩
    · exact own_base (own_turned HO.out HT8.out (fun k hk e => by unfold Just at e; omega)) (by omega)
    · exact ((HB0.out.trans (HB1.out.mono (by omega))).trans (HB2.out.mono (by omega))).trans (below_just HT8.out (by omega) (by omega))

/-- So many sectors New gives. -/
def newN (n : Int) : Nat := (min (max n 0) 1000).toNat
set_option maxRecDepth 100000 in
set_option maxHeartbeats 1000000 in
theorem new4_any (n : Int) (w : World) : Calls Try.prog 19 #[.int .i64 n] w (Ours (sNew n) w) := by
  obtain ⟨W0, hW0⟩ : ∃ W0, W0 = w.alloc (.cells (stC (.slice none 0 0) st0).toArray 28) := ⟨_, rfl⟩
  have A0 : At W0 w.heap.size 28 (stC (.slice none 0 0) st0) := by rw [hW0]; exact At.news w _ _
  have B0 : Below w.heap.size w W0 := by rw [hW0]; exact (Below.refl _ w).alloc (Nat.le_refl _) _
  have s0 : W0.heap.size = w.heap.size + 1 := by rw [hW0, World.size_alloc]
  have hz := st_zero
  have hb := run_st
  obtain ⟨i0, hin, hz0, hz1, hz2⟩ := info_parts v4_infoA
  have HA0 := Lib.hid A0
  have HB0 := Lib.hid B0
  have HS0 := Lib.hid s0
  clear A0 B0 s0
  obtain ⟨k, hk⟩ : ∃ k, k = newN n := ⟨_, rfl⟩
  have HK := Lib.hid hk
  have hsn : sNew n = calmS (List.replicate k v40) := by rw [hk]; rfl
  rw [hsn]
  have hk1 : k ≤ 1000 := by rw [hk]; unfold newN; omega
  have key : (n < 0 ∧ k = 0) ∨ (0 ≤ n ∧ n ≤ 1000 ∧ n = (k : Int)) ∨ (1000 < n ∧ k = 1000) := by rw [hk]; unfold newN; omega
  clear hk hsn
  go_enter Try.func19, Try.ntmps19
  go_upto_region 1 with (fail)
  change Code.wp _ _ _ _ (w.alloc (.cells (stC (.slice none 0 0) st0).toArray 28))
  rw [← hW0]
  clear hW0
  have fin : ∀ (V V2 : World) (D : Option Addr), V.ownsRow W0.heap.size 24 4 (.slice D k k) k (v4K.all (List.replicate k v40)) → Below W0.heap.size W0 V → Turned (Just w.heap.size) V V2 → Ours (calmS (List.replicate k v40)) w (.returned (.agg (stC (.slice D k k) st0).toArray)) V2 := by
    intro V V2 D hO hB hT
    have h0 := HS0.out
    have h1 := hB.size
    refine ⟨D, k, by simp only [calmS, List.length_replicate]; rfl, ?_, ?_⟩
    · simp only [calmS, List.length_replicate]
      exact own_base (own_turned hO hT (fun j hj e => by unfold Just at e; omega)) (by omega)
    · exact (HB0.out.trans (hB.mono (by omega))).trans (below_just hT (Nat.le_refl _) (by omega))
  have FIN := Lib.hid fin
  clear fin
  rcases key with ⟨h1, rfl⟩ | ⟨h1, h2, rfl⟩ | ⟨h1, rfl⟩
  · go_wp2_with (at_make; refine halt_here ?_)
    refine Lib.hid ?_
    refine wpList_madeK v4K W0 rfl _ _ rfl W0.heap.size Try.underlying22 hin hz0 hz1 hz2 (by omega) 0 (by rfl) (by rfl) (by omega) (Nat.le_refl _) ?_
    intro w1 h3 h4
    have HO := Lib.hid h3
    have HB1 := Lib.hid h4
    have HA1 := Lib.hid (HA0.out.kept (Turned.of_below h4 (Nat.le_refl _) NoBlock) (fun h => h))
    clear h3 h4
    simp only [Act.put, List.setIfInBounds_toArray, List.set_cons_zero, List.set_cons_succ]
    go_wp2_with (refine wpList_stm (pre := []) (post := []) (xs := stC (.slice none 0 0) st0) (ys := stC _ st0) _ _ rfl rfl rfl rfl st_size (by rfl) (stC_len _ _) (stC_one _) rfl (by simp) HA1.out ?_; intro V4 A8 T8; rw [List.nil_append, List.append_nil] at A8; have HA8 := Lib.hid A8; have HT8 := Lib.hid T8; clear A8 T8)
    exact bodyPost_ret (res_cell Try.results19 _ Try.underlying28 rfl st_size rfl HA8.out (stC_len _ _)) rfl (FIN.out _ _ _ HO.out HB1.out HT8.out)
  · go_wp2_with (at_make; refine halt_here ?_)
    refine Lib.hid ?_
    refine wpList_madeK v4K W0 rfl _ _ rfl W0.heap.size Try.underlying22 hin hz0 hz1 hz2 (by omega) k (by rfl) (by rfl) (by omega) (Nat.le_refl _) ?_
    intro w1 h3 h4
    have HO := Lib.hid h3
    have HB1 := Lib.hid h4
    have HA1 := Lib.hid (HA0.out.kept (Turned.of_below h4 (Nat.le_refl _) NoBlock) (fun h => h))
    clear h3 h4
    simp only [Act.put, List.setIfInBounds_toArray, List.set_cons_zero, List.set_cons_succ]
    go_wp2_with (refine wpList_stm (pre := []) (post := []) (xs := stC (.slice none 0 0) st0) (ys := stC _ st0) _ _ rfl rfl rfl rfl st_size (by rfl) (stC_len _ _) (stC_one _) rfl (by simp) HA1.out ?_; intro V4 A8 T8; rw [List.nil_append, List.append_nil] at A8; have HA8 := Lib.hid A8; have HT8 := Lib.hid T8; clear A8 T8)
    exact bodyPost_ret (res_cell Try.results19 _ Try.underlying28 rfl st_size rfl HA8.out (stC_len _ _)) rfl (FIN.out _ _ _ HO.out HB1.out HT8.out)
  · go_wp2_with (at_make; refine halt_here ?_)
    refine Lib.hid ?_
    refine wpList_madeK v4K W0 rfl _ _ rfl W0.heap.size Try.underlying22 hin hz0 hz1 hz2 (by omega) 1000 (by rfl) (by rfl) (by omega) (Nat.le_refl _) ?_
    intro w1 h3 h4
    have HO := Lib.hid h3
    have HB1 := Lib.hid h4
    have HA1 := Lib.hid (HA0.out.kept (Turned.of_below h4 (Nat.le_refl _) NoBlock) (fun h => h))
    clear h3 h4
    simp only [Act.put, List.setIfInBounds_toArray, List.set_cons_zero, List.set_cons_succ]
    go_wp2_with (refine wpList_stm (pre := []) (post := []) (xs := stC (.slice none 0 0) st0) (ys := stC _ st0) _ _ rfl rfl rfl rfl st_size (by rfl) (stC_len _ _) (stC_one _) rfl (by simp) HA1.out ?_; intro V4 A8 T8; rw [List.nil_append, List.append_nil] at A8; have HA8 := Lib.hid A8; have HT8 := Lib.hid T8; clear A8 T8)
    exact bodyPost_ret (res_cell Try.results19 _ Try.underlying28 rfl st_size rfl HA8.out (stC_len _ _)) rfl (FIN.out _ _ _ HO.out HB1.out HT8.out)
end Go.Proofs.Ytakohcdopbckkaa
