/- ModelOne: the function that it makes, and its walk. -/
import Derived.Test.YtakohcdopbckkaaMod11
namespace Go.Proofs.Ytakohcdopbckkaa
open Go.RowKit Bm

set_option maxRecDepth 100000 in
set_option maxHeartbeats 2000000 in
theorem with4_any (b7 b8 : Nat) (A : Option Addr) (c : Nat) (s : StM) (t : Nat) (x : V4) (w : World) (hA : At w b8 28 (stC (.slice A s.sure.length c) s)) (hR : v4K.Reads w A s.sure.length c s.sure) (hK : At w b7 3 [.int .i64 (t : Int)]) (ht : t < s.sure.length) (hn : s.sure.length ≤ 50000) :
    Calls Try.prog 21 #[.agg (v4C x).toArray, .pointer (some ⟨b8, 0, none⟩), .pointer (some ⟨b7, 0, none⟩)] w fun e w' => ∃ B cap, e = .returned (.slice B s.sure.length cap) ∧ v4K.Reads w' B s.sure.length cap (s.sure.set t x) ∧ Below w.heap.size w w' := by
  obtain ⟨i0, hin, hz0, hz1, hz2⟩ := info_parts v4_infoA
  obtain ⟨W0, hW0⟩ : ∃ W0, W0 = w.alloc (.cells (v4C x).toArray 24) := ⟨_, rfl⟩
  have A0 : At W0 w.heap.size 24 (v4C x) := by rw [hW0]; exact At.news w _ _
  have B0 : Below w.heap.size w W0 := by rw [hW0]; exact (Below.refl _ w).alloc (Nat.le_refl _) _
  have c8 : W0.cell? ⟨b8, 0, none⟩ = some (.slice A s.sure.length c) := (at_kept hA B0).cell 0
  have HA0 := Lib.hid A0
  have HB0 := Lib.hid B0
  have HR0 := Lib.hid (hR.kept B0)
  have HK0 := Lib.hid (at_kept hK B0)
  have j0 : (0 : Int) ≤ (t : Int) := by omega
  have j1 : (t : Int) < (s.sure.length : Int) := by omega
  have HT := Lib.hid ht
  clear A0 B0 hA hR hK ht
  go_enter Try.func21, Try.ntmps21
  go_upto_region 1 with (fail)
  change Code.wp _ _ _ _ (w.alloc (.cells (v4C x).toArray 24))
  rw [← hW0]
  clear hW0
  go_wp2_with (at_builtin; refine halt_here ?_)
  refine Lib.hid ?_
  refine wpList_join (K := v4K) (base := W0.heap.size) (xs := []) (ys := s.sure) _ (.tmp 7) rfl rfl Try.underlying22 hin hz0 hz1 hz2 (by rfl) (by omega) (v := .slice none 0 0) (by rfl) (World.ownsRow_nil _ _ _ _) (by rfl) HR0.out (by simp; omega) (Nat.le_refl _) ?_
  intro B cap w2 h3 h4 h5
  have e : ([] : List V4).length + s.sure.length = s.sure.length := Nat.zero_add _
  rw [e, List.nil_append] at h3
  rw [e]
  obtain ⟨g, rfl, hg, hg2⟩ := own_some h3 (by omega)
  obtain ⟨rest, hA, hp, _, hset⟩ := own_around h3 HT.out
  have HAR := Lib.hid hA
  have HP := Lib.hid hp
  have HSET := Lib.hid hset
  have HG : Hid (W0.heap.size ≤ g ∧ g < w2.heap.size) := Lib.hid ⟨hg, hg2⟩
  have HB2 := Lib.hid (below_next HB0.out h4)
  have HX2 := Lib.hid (at_kept HA0.out h4)
  have k7 : w2.cell? ⟨b7, 0, none⟩ = some (.int .i64 (t : Int)) := (at_kept HK0.out h4).cell 0
  have HS0 : Hid (w.heap.size ≤ W0.heap.size) := Lib.hid HB0.out.size
  simp only [Act.put, List.setIfInBounds_toArray, List.set_cons_zero, List.set_cons_succ]
  clear h3 h4 h5 e hg hg2 hA hp hset HB0 HA0 HK0 HR0
  go_wp2_with (first
    | (refine wpList_ldr (xs := v4C x) _ rfl rfl rfl Try.underlying24 rfl v4_size (v4_len _) HX2.out.rng0 ?_)
    | (refine wpList_stm (pre := v4K.all (s.sure.take t)) (post := v4K.all (s.sure.drop (t + 1)) ++ rest) (xs := v4K.c (v4K.nth s.sure t)) (ys := v4C x) _ _ rfl rfl rfl rfl v4_size (v4K.len _) (v4_len _) (v4_one _) HP.out rfl HAR.out ?_; intro V4 A7 T7; have HW4 := Lib.hid (HSET.out V4 x A7); have HT7 := Lib.hid T7; clear A7 T7))
  go_ret
  obtain ⟨B', cap', e3, hr, _⟩ := Kd.Reads.of_own (K := v4K) HW4.out (by rw [List.length_set])
  cases e3
  exact ⟨some ⟨g, 0, none⟩, cap, rfl, hr, HB2.out.trans (below_just HT7.out (by have := HG.out; have := HS0.out; omega) HB2.out.size)⟩
end Go.Proofs.Ytakohcdopbckkaa
