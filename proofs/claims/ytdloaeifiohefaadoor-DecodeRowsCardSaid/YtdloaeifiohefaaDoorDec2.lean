/- Layer decode's program: the parts of each format's words, laid as a map. -/
import Derived.Test.YtdloaeifiohefaaDoorDecMap
namespace Go.Proofs.YtdloaeifiohefaaDoor
open Go.RowKit Bm

theorem pt_info : (Tryd.prog.info? 64).map (fun i => i.size) = some 3 := by kernel_rfl
/-- The three common parts' boxes, behind the heap as it was. -/
structure Boxes (w0 w : World) : Prop where
  b0 : At w w0.heap.size 64 (ptC ⟨7, 0, 5, 0⟩)
  b1 : At w (w0.heap.size + 1) 64 (ptC ⟨15, 1, 5, 0⟩)
  b2 : At w (w0.heap.size + 1 + 1) 64 (ptC ⟨20, 2, 5, 0⟩)
  low : Below w0.heap.size w0 w
  big : w0.heap.size + 3 ≤ w.heap.size
theorem Boxes.turn {w0 w w' : World} (h : Boxes w0 w) {b : Nat} (hb : w0.heap.size + 3 ≤ b) (hT : Turned (Just b) w w') : Boxes w0 w' :=
  ⟨h.b0.kept hT (by unfold Just; omega), h.b1.kept hT (by unfold Just; omega), h.b2.kept hT (by unfold Just; omega), h.low.trans (hT.below (fun k hk => by unfold Just at hk; omega) h.low.size), Nat.le_trans h.big hT.size⟩
theorem Boxes.c00 {w0 w : World} (h : Boxes w0 w) : w.cell? ⟨w0.heap.size, 0, none⟩ = some (.int .i64 0) ∧ w.cell? ⟨w0.heap.size, 1, none⟩ = some (.int .i64 5) ∧ w.cell? ⟨w0.heap.size, 2, none⟩ = some (.int .i64 0) := ⟨h.b0.cell 0, h.b0.cell 1, h.b0.cell 2⟩
theorem Boxes.c10 {w0 w : World} (h : Boxes w0 w) : w.cell? ⟨w0.heap.size + 1, 0, none⟩ = some (.int .i64 1) ∧ w.cell? ⟨w0.heap.size + 1, 1, none⟩ = some (.int .i64 5) ∧ w.cell? ⟨w0.heap.size + 1, 2, none⟩ = some (.int .i64 0) := ⟨h.b1.cell 0, h.b1.cell 1, h.b1.cell 2⟩
theorem Boxes.c20 {w0 w : World} (h : Boxes w0 w) : w.cell? ⟨w0.heap.size + 1 + 1, 0, none⟩ = some (.int .i64 2) ∧ w.cell? ⟨w0.heap.size + 1 + 1, 1, none⟩ = some (.int .i64 5) ∧ w.cell? ⟨w0.heap.size + 1 + 1, 2, none⟩ = some (.int .i64 0) := ⟨h.b2.cell 0, h.b2.cell 1, h.b2.cell 2⟩
theorem seeP {ps : List PtM} {a : Nat} (h : (ps.all fun q => decide (q.a < 1000) && !decide (q.a = a)) = true) : ∀ q ∈ ps, q.a < 1000 ∧ q.a ≠ a := fun q hq => by
  have := List.all_eq_true.1 h q hq
  simpa using this
theorem Boxes.alloc {w0 w : World} (h : Boxes w0 w) (o : Obj) : Boxes w0 (w.alloc o) :=
  ⟨h.b0.alloc o, h.b1.alloc o, h.b2.alloc o, h.low.alloc h.low.size o, Nat.le_trans h.big (by simp)⟩
theorem Boxes.news (w : World) : Boxes w (((w.alloc (.cells #[.int .i64 0, .int .i64 5, .int .i64 0] 64)).alloc (.cells #[.int .i64 1, .int .i64 5, .int .i64 0] 64)).alloc (.cells #[.int .i64 2, .int .i64 5, .int .i64 0] 64)) :=
  ⟨((At.news w _ (ptC ⟨7, 0, 5, 0⟩)).alloc _).alloc _, (At.alloc_new _ _ (ptC ⟨15, 1, 5, 0⟩) (by simp) rfl).alloc _, At.alloc_new _ _ (ptC ⟨20, 2, 5, 0⟩) (by simp) rfl,
   (((Below.refl _ w).alloc (Nat.le_refl _) _).alloc (by simp) _).alloc (by simp <;> omega) _, by simp⟩
theorem run_mkmap (W : World) : (Instr.makeMap 61 none).run Tryd.prog W = .ok (.map (some W.heap.size)) (W.alloc (.map #[] 0)) := by simp [Instr.makeMap]
theorem parts_0 (w : World) : Calls Tryd.prog 32 #[.int .i64 0] w fun e w' => ∃ m, e = .returned (.map m) ∧ PartsAt w' m (ptsOf 0) ∧ Below w.heap.size w w' ∧ ∀ b, m = some b → w.heap.size ≤ b := by
  have HN := Lib.hid (Boxes.news w)
  go_enter Tryd.func32, Tryd.ntmps32
  go_upto_region 4 with (fail)
  obtain ⟨W0, hW0⟩ : ∃ W0, W0 = (((w.alloc (.cells #[.int .i64 0, .int .i64 5, .int .i64 0] 64)).alloc (.cells #[.int .i64 1, .int .i64 5, .int .i64 0] 64)).alloc (.cells #[.int .i64 2, .int .i64 5, .int .i64 0] 64)) := ⟨_, rfl⟩
  rw [← hW0] at HN ⊢
  clear hW0
  have HB := Lib.hid (HN.out.alloc (.map #[] 0))
  have HM := Lib.hid (PMap.news W0)
  have hbig : w.heap.size + 3 ≤ W0.heap.size := HN.out.big
  have hb0 : W0.heap.size < (W0.alloc (.map #[] 0)).heap.size := by simp
  clear hb0
  have hmk := run_mkmap W0
  obtain ⟨c00, c01, c02⟩ := HB.out.c00; obtain ⟨c10, c11, c12⟩ := HB.out.c10; obtain ⟨c20, c21, c22⟩ := HB.out.c20
  go_wp2_with (first
    | (refine wpList_insP (ps := []) _ _ _ _ ⟨7, 0, 5, 0⟩ rfl rfl rfl rfl rfl HM.out (seeP (by decide)) (by decide) ?_; intro w1 hm hT; have HM : Hid (PMap w1 _ [⟨7, 0, 5, 0⟩]) := Lib.hid hm; have HB := Lib.hid (HB.out.turn hbig hT); clear hm hT; obtain ⟨c00, c01, c02⟩ := HB.out.c00; obtain ⟨c10, c11, c12⟩ := HB.out.c10; obtain ⟨c20, c21, c22⟩ := HB.out.c20)
    | (refine wpList_insP (ps := [⟨7, 0, 5, 0⟩]) _ _ _ _ ⟨12, 3, 20, 12⟩ rfl rfl rfl rfl rfl HM.out (seeP (by decide)) (by decide) ?_; intro w1 hm hT; have HM : Hid (PMap w1 _ [⟨7, 0, 5, 0⟩, ⟨12, 3, 20, 12⟩]) := Lib.hid hm; have HB := Lib.hid (HB.out.turn hbig hT); clear hm hT; obtain ⟨c00, c01, c02⟩ := HB.out.c00; obtain ⟨c10, c11, c12⟩ := HB.out.c10; obtain ⟨c20, c21, c22⟩ := HB.out.c20))
  go_ret
  exact ⟨some W0.heap.size, rfl, .inr ⟨_, rfl, HM.out⟩, HB.out.low, fun b h => by cases h; omega⟩
theorem parts_1 (w : World) : Calls Tryd.prog 32 #[.int .i64 1] w fun e w' => ∃ m, e = .returned (.map m) ∧ PartsAt w' m (ptsOf 1) ∧ Below w.heap.size w w' ∧ ∀ b, m = some b → w.heap.size ≤ b := by
  have HN := Lib.hid (Boxes.news w)
  go_enter Tryd.func32, Tryd.ntmps32
  go_upto_region 6 with (fail)
  obtain ⟨W0, hW0⟩ : ∃ W0, W0 = (((w.alloc (.cells #[.int .i64 0, .int .i64 5, .int .i64 0] 64)).alloc (.cells #[.int .i64 1, .int .i64 5, .int .i64 0] 64)).alloc (.cells #[.int .i64 2, .int .i64 5, .int .i64 0] 64)) := ⟨_, rfl⟩
  rw [← hW0] at HN ⊢
  clear hW0
  have HB := Lib.hid (HN.out.alloc (.map #[] 0))
  have HM := Lib.hid (PMap.news W0)
  have hbig : w.heap.size + 3 ≤ W0.heap.size := HN.out.big
  have hb0 : W0.heap.size < (W0.alloc (.map #[] 0)).heap.size := by simp
  clear hb0
  have hmk := run_mkmap W0
  obtain ⟨c00, c01, c02⟩ := HB.out.c00; obtain ⟨c10, c11, c12⟩ := HB.out.c10; obtain ⟨c20, c21, c22⟩ := HB.out.c20
  go_wp2_with (first
    | (refine wpList_insP (ps := []) _ _ _ _ ⟨7, 0, 5, 0⟩ rfl rfl rfl rfl rfl HM.out (seeP (by decide)) (by decide) ?_; intro w1 hm hT; have HM : Hid (PMap w1 _ [⟨7, 0, 5, 0⟩]) := Lib.hid hm; have HB := Lib.hid (HB.out.turn hbig hT); clear hm hT; obtain ⟨c00, c01, c02⟩ := HB.out.c00; obtain ⟨c10, c11, c12⟩ := HB.out.c10; obtain ⟨c20, c21, c22⟩ := HB.out.c20)
    | (refine wpList_insP (ps := [⟨7, 0, 5, 0⟩]) _ _ _ _ ⟨12, 3, 8, 12⟩ rfl rfl rfl rfl rfl HM.out (seeP (by decide)) (by decide) ?_; intro w1 hm hT; have HM : Hid (PMap w1 _ [⟨7, 0, 5, 0⟩, ⟨12, 3, 8, 12⟩]) := Lib.hid hm; have HB := Lib.hid (HB.out.turn hbig hT); clear hm hT; obtain ⟨c00, c01, c02⟩ := HB.out.c00; obtain ⟨c10, c11, c12⟩ := HB.out.c10; obtain ⟨c20, c21, c22⟩ := HB.out.c20)
    | (refine wpList_insP (ps := [⟨7, 0, 5, 0⟩, ⟨12, 3, 8, 12⟩]) _ _ _ _ ⟨20, 3, 1, 11⟩ rfl rfl rfl rfl rfl HM.out (seeP (by decide)) (by decide) ?_; intro w1 hm hT; have HM : Hid (PMap w1 _ [⟨7, 0, 5, 0⟩, ⟨12, 3, 8, 12⟩, ⟨20, 3, 1, 11⟩]) := Lib.hid hm; have HB := Lib.hid (HB.out.turn hbig hT); clear hm hT; obtain ⟨c00, c01, c02⟩ := HB.out.c00; obtain ⟨c10, c11, c12⟩ := HB.out.c10; obtain ⟨c20, c21, c22⟩ := HB.out.c20)
    | (refine wpList_insP (ps := [⟨7, 0, 5, 0⟩, ⟨12, 3, 8, 12⟩, ⟨20, 3, 1, 11⟩]) _ _ _ _ ⟨21, 3, 10, 1⟩ rfl rfl rfl rfl rfl HM.out (seeP (by decide)) (by decide) ?_; intro w1 hm hT; have HM : Hid (PMap w1 _ [⟨7, 0, 5, 0⟩, ⟨12, 3, 8, 12⟩, ⟨20, 3, 1, 11⟩, ⟨21, 3, 10, 1⟩]) := Lib.hid hm; have HB := Lib.hid (HB.out.turn hbig hT); clear hm hT; obtain ⟨c00, c01, c02⟩ := HB.out.c00; obtain ⟨c10, c11, c12⟩ := HB.out.c10; obtain ⟨c20, c21, c22⟩ := HB.out.c20)
    | (refine wpList_insP (ps := [⟨7, 0, 5, 0⟩, ⟨12, 3, 8, 12⟩, ⟨20, 3, 1, 11⟩, ⟨21, 3, 10, 1⟩]) _ _ _ _ ⟨31, 3, 1, 20⟩ rfl rfl rfl rfl rfl HM.out (seeP (by decide)) (by decide) ?_; intro w1 hm hT; have HM : Hid (PMap w1 _ [⟨7, 0, 5, 0⟩, ⟨12, 3, 8, 12⟩, ⟨20, 3, 1, 11⟩, ⟨21, 3, 10, 1⟩, ⟨31, 3, 1, 20⟩]) := Lib.hid hm; have HB := Lib.hid (HB.out.turn hbig hT); clear hm hT; obtain ⟨c00, c01, c02⟩ := HB.out.c00; obtain ⟨c10, c11, c12⟩ := HB.out.c10; obtain ⟨c20, c21, c22⟩ := HB.out.c20))
  go_ret
  exact ⟨some W0.heap.size, rfl, .inr ⟨_, rfl, HM.out⟩, HB.out.low, fun b h => by cases h; omega⟩
theorem parts_2 (w : World) : Calls Tryd.prog 32 #[.int .i64 2] w fun e w' => ∃ m, e = .returned (.map m) ∧ PartsAt w' m (ptsOf 2) ∧ Below w.heap.size w w' ∧ ∀ b, m = some b → w.heap.size ≤ b := by
  have HN := Lib.hid (Boxes.news w)
  go_enter Tryd.func32, Tryd.ntmps32
  go_upto_region 10 with (fail)
  obtain ⟨W0, hW0⟩ : ∃ W0, W0 = (((w.alloc (.cells #[.int .i64 0, .int .i64 5, .int .i64 0] 64)).alloc (.cells #[.int .i64 1, .int .i64 5, .int .i64 0] 64)).alloc (.cells #[.int .i64 2, .int .i64 5, .int .i64 0] 64)) := ⟨_, rfl⟩
  rw [← hW0] at HN ⊢
  clear hW0
  have HB := Lib.hid (HN.out.alloc (.map #[] 0))
  have HM := Lib.hid (PMap.news W0)
  have hbig : w.heap.size + 3 ≤ W0.heap.size := HN.out.big
  have hb0 : W0.heap.size < (W0.alloc (.map #[] 0)).heap.size := by simp
  clear hb0
  have hmk := run_mkmap W0
  obtain ⟨c00, c01, c02⟩ := HB.out.c00; obtain ⟨c10, c11, c12⟩ := HB.out.c10; obtain ⟨c20, c21, c22⟩ := HB.out.c20
  go_wp2_with (first
    | (refine wpList_insP (ps := []) _ _ _ _ ⟨7, 0, 5, 0⟩ rfl rfl rfl rfl rfl HM.out (seeP (by decide)) (by decide) ?_; intro w1 hm hT; have HM : Hid (PMap w1 _ [⟨7, 0, 5, 0⟩]) := Lib.hid hm; have HB := Lib.hid (HB.out.turn hbig hT); clear hm hT; obtain ⟨c00, c01, c02⟩ := HB.out.c00; obtain ⟨c10, c11, c12⟩ := HB.out.c10; obtain ⟨c20, c21, c22⟩ := HB.out.c20)
    | (refine wpList_insP (ps := [⟨7, 0, 5, 0⟩]) _ _ _ _ ⟨15, 1, 5, 0⟩ rfl rfl rfl rfl rfl HM.out (seeP (by decide)) (by decide) ?_; intro w1 hm hT; have HM : Hid (PMap w1 _ [⟨7, 0, 5, 0⟩, ⟨15, 1, 5, 0⟩]) := Lib.hid hm; have HB := Lib.hid (HB.out.turn hbig hT); clear hm hT; obtain ⟨c00, c01, c02⟩ := HB.out.c00; obtain ⟨c10, c11, c12⟩ := HB.out.c10; obtain ⟨c20, c21, c22⟩ := HB.out.c20)
    | (refine wpList_insP (ps := [⟨7, 0, 5, 0⟩, ⟨15, 1, 5, 0⟩]) _ _ _ _ ⟨20, 3, 12, 0⟩ rfl rfl rfl rfl rfl HM.out (seeP (by decide)) (by decide) ?_; intro w1 hm hT; have HM : Hid (PMap w1 _ [⟨7, 0, 5, 0⟩, ⟨15, 1, 5, 0⟩, ⟨20, 3, 12, 0⟩]) := Lib.hid hm; have HB := Lib.hid (HB.out.turn hbig hT); clear hm hT; obtain ⟨c00, c01, c02⟩ := HB.out.c00; obtain ⟨c10, c11, c12⟩ := HB.out.c10; obtain ⟨c20, c21, c22⟩ := HB.out.c20))
  go_ret
  exact ⟨some W0.heap.size, rfl, .inr ⟨_, rfl, HM.out⟩, HB.out.low, fun b h => by cases h; omega⟩
theorem parts_3 (w : World) : Calls Tryd.prog 32 #[.int .i64 3] w fun e w' => ∃ m, e = .returned (.map m) ∧ PartsAt w' m (ptsOf 3) ∧ Below w.heap.size w w' ∧ ∀ b, m = some b → w.heap.size ≤ b := by
  have HN := Lib.hid (Boxes.news w)
  go_enter Tryd.func32, Tryd.ntmps32
  go_upto_region 12 with (fail)
  obtain ⟨W0, hW0⟩ : ∃ W0, W0 = (((w.alloc (.cells #[.int .i64 0, .int .i64 5, .int .i64 0] 64)).alloc (.cells #[.int .i64 1, .int .i64 5, .int .i64 0] 64)).alloc (.cells #[.int .i64 2, .int .i64 5, .int .i64 0] 64)) := ⟨_, rfl⟩
  rw [← hW0] at HN ⊢
  clear hW0
  have HB := Lib.hid (HN.out.alloc (.map #[] 0))
  have HM := Lib.hid (PMap.news W0)
  have hbig : w.heap.size + 3 ≤ W0.heap.size := HN.out.big
  have hb0 : W0.heap.size < (W0.alloc (.map #[] 0)).heap.size := by simp
  clear hb0
  have hmk := run_mkmap W0
  obtain ⟨c00, c01, c02⟩ := HB.out.c00; obtain ⟨c10, c11, c12⟩ := HB.out.c10; obtain ⟨c20, c21, c22⟩ := HB.out.c20
  go_wp2_with (first
    | (refine wpList_insP (ps := []) _ _ _ _ ⟨7, 3, 1, 11⟩ rfl rfl rfl rfl rfl HM.out (seeP (by decide)) (by decide) ?_; intro w1 hm hT; have HM : Hid (PMap w1 _ [⟨7, 3, 1, 11⟩]) := Lib.hid hm; have HB := Lib.hid (HB.out.turn hbig hT); clear hm hT; obtain ⟨c00, c01, c02⟩ := HB.out.c00; obtain ⟨c10, c11, c12⟩ := HB.out.c10; obtain ⟨c20, c21, c22⟩ := HB.out.c20)
    | (refine wpList_insP (ps := [⟨7, 3, 1, 11⟩]) _ _ _ _ ⟨8, 3, 4, 1⟩ rfl rfl rfl rfl rfl HM.out (seeP (by decide)) (by decide) ?_; intro w1 hm hT; have HM : Hid (PMap w1 _ [⟨7, 3, 1, 11⟩, ⟨8, 3, 4, 1⟩]) := Lib.hid hm; have HB := Lib.hid (HB.out.turn hbig hT); clear hm hT; obtain ⟨c00, c01, c02⟩ := HB.out.c00; obtain ⟨c10, c11, c12⟩ := HB.out.c10; obtain ⟨c20, c21, c22⟩ := HB.out.c20)
    | (refine wpList_insP (ps := [⟨7, 3, 1, 11⟩, ⟨8, 3, 4, 1⟩]) _ _ _ _ ⟨15, 1, 5, 0⟩ rfl rfl rfl rfl rfl HM.out (seeP (by decide)) (by decide) ?_; intro w1 hm hT; have HM : Hid (PMap w1 _ [⟨7, 3, 1, 11⟩, ⟨8, 3, 4, 1⟩, ⟨15, 1, 5, 0⟩]) := Lib.hid hm; have HB := Lib.hid (HB.out.turn hbig hT); clear hm hT; obtain ⟨c00, c01, c02⟩ := HB.out.c00; obtain ⟨c10, c11, c12⟩ := HB.out.c10; obtain ⟨c20, c21, c22⟩ := HB.out.c20)
    | (refine wpList_insP (ps := [⟨7, 3, 1, 11⟩, ⟨8, 3, 4, 1⟩, ⟨15, 1, 5, 0⟩]) _ _ _ _ ⟨20, 2, 5, 0⟩ rfl rfl rfl rfl rfl HM.out (seeP (by decide)) (by decide) ?_; intro w1 hm hT; have HM : Hid (PMap w1 _ [⟨7, 3, 1, 11⟩, ⟨8, 3, 4, 1⟩, ⟨15, 1, 5, 0⟩, ⟨20, 2, 5, 0⟩]) := Lib.hid hm; have HB := Lib.hid (HB.out.turn hbig hT); clear hm hT; obtain ⟨c00, c01, c02⟩ := HB.out.c00; obtain ⟨c10, c11, c12⟩ := HB.out.c10; obtain ⟨c20, c21, c22⟩ := HB.out.c20)
    | (refine wpList_insP (ps := [⟨7, 3, 1, 11⟩, ⟨8, 3, 4, 1⟩, ⟨15, 1, 5, 0⟩, ⟨20, 2, 5, 0⟩]) _ _ _ _ ⟨25, 3, 6, 5⟩ rfl rfl rfl rfl rfl HM.out (seeP (by decide)) (by decide) ?_; intro w1 hm hT; have HM : Hid (PMap w1 _ [⟨7, 3, 1, 11⟩, ⟨8, 3, 4, 1⟩, ⟨15, 1, 5, 0⟩, ⟨20, 2, 5, 0⟩, ⟨25, 3, 6, 5⟩]) := Lib.hid hm; have HB := Lib.hid (HB.out.turn hbig hT); clear hm hT; obtain ⟨c00, c01, c02⟩ := HB.out.c00; obtain ⟨c10, c11, c12⟩ := HB.out.c10; obtain ⟨c20, c21, c22⟩ := HB.out.c20)
    | (refine wpList_insP (ps := [⟨7, 3, 1, 11⟩, ⟨8, 3, 4, 1⟩, ⟨15, 1, 5, 0⟩, ⟨20, 2, 5, 0⟩, ⟨25, 3, 6, 5⟩]) _ _ _ _ ⟨31, 3, 1, 12⟩ rfl rfl rfl rfl rfl HM.out (seeP (by decide)) (by decide) ?_; intro w1 hm hT; have HM : Hid (PMap w1 _ [⟨7, 3, 1, 11⟩, ⟨8, 3, 4, 1⟩, ⟨15, 1, 5, 0⟩, ⟨20, 2, 5, 0⟩, ⟨25, 3, 6, 5⟩, ⟨31, 3, 1, 12⟩]) := Lib.hid hm; have HB := Lib.hid (HB.out.turn hbig hT); clear hm hT; obtain ⟨c00, c01, c02⟩ := HB.out.c00; obtain ⟨c10, c11, c12⟩ := HB.out.c10; obtain ⟨c20, c21, c22⟩ := HB.out.c20))
  go_ret
  exact ⟨some W0.heap.size, rfl, .inr ⟨_, rfl, HM.out⟩, HB.out.low, fun b h => by cases h; omega⟩
theorem parts_4 (w : World) : Calls Tryd.prog 32 #[.int .i64 4] w fun e w' => ∃ m, e = .returned (.map m) ∧ PartsAt w' m (ptsOf 4) ∧ Below w.heap.size w w' ∧ ∀ b, m = some b → w.heap.size ≤ b := by
  have HN := Lib.hid (Boxes.news w)
  go_enter Tryd.func32, Tryd.ntmps32
  go_upto_region 14 with (fail)
  obtain ⟨W0, hW0⟩ : ∃ W0, W0 = (((w.alloc (.cells #[.int .i64 0, .int .i64 5, .int .i64 0] 64)).alloc (.cells #[.int .i64 1, .int .i64 5, .int .i64 0] 64)).alloc (.cells #[.int .i64 2, .int .i64 5, .int .i64 0] 64)) := ⟨_, rfl⟩
  rw [← hW0] at HN ⊢
  clear hW0
  have HB := Lib.hid (HN.out.alloc (.map #[] 0))
  have HM := Lib.hid (PMap.news W0)
  have hbig : w.heap.size + 3 ≤ W0.heap.size := HN.out.big
  have hb0 : W0.heap.size < (W0.alloc (.map #[] 0)).heap.size := by simp
  clear hb0
  have hmk := run_mkmap W0
  obtain ⟨c00, c01, c02⟩ := HB.out.c00; obtain ⟨c10, c11, c12⟩ := HB.out.c10; obtain ⟨c20, c21, c22⟩ := HB.out.c20
  go_wp2_with (first
    | (refine wpList_insP (ps := []) _ _ _ _ ⟨7, 3, 5, 0⟩ rfl rfl rfl rfl rfl HM.out (seeP (by decide)) (by decide) ?_; intro w1 hm hT; have HM : Hid (PMap w1 _ [⟨7, 3, 5, 0⟩]) := Lib.hid hm; have HB := Lib.hid (HB.out.turn hbig hT); clear hm hT; obtain ⟨c00, c01, c02⟩ := HB.out.c00; obtain ⟨c10, c11, c12⟩ := HB.out.c10; obtain ⟨c20, c21, c22⟩ := HB.out.c20)
    | (refine wpList_insP (ps := [⟨7, 3, 5, 0⟩]) _ _ _ _ ⟨15, 1, 5, 0⟩ rfl rfl rfl rfl rfl HM.out (seeP (by decide)) (by decide) ?_; intro w1 hm hT; have HM : Hid (PMap w1 _ [⟨7, 3, 5, 0⟩, ⟨15, 1, 5, 0⟩]) := Lib.hid hm; have HB := Lib.hid (HB.out.turn hbig hT); clear hm hT; obtain ⟨c00, c01, c02⟩ := HB.out.c00; obtain ⟨c10, c11, c12⟩ := HB.out.c10; obtain ⟨c20, c21, c22⟩ := HB.out.c20)
    | (refine wpList_insP (ps := [⟨7, 3, 5, 0⟩, ⟨15, 1, 5, 0⟩]) _ _ _ _ ⟨20, 2, 5, 0⟩ rfl rfl rfl rfl rfl HM.out (seeP (by decide)) (by decide) ?_; intro w1 hm hT; have HM : Hid (PMap w1 _ [⟨7, 3, 5, 0⟩, ⟨15, 1, 5, 0⟩, ⟨20, 2, 5, 0⟩]) := Lib.hid hm; have HB := Lib.hid (HB.out.turn hbig hT); clear hm hT; obtain ⟨c00, c01, c02⟩ := HB.out.c00; obtain ⟨c10, c11, c12⟩ := HB.out.c10; obtain ⟨c20, c21, c22⟩ := HB.out.c20)
    | (refine wpList_insP (ps := [⟨7, 3, 5, 0⟩, ⟨15, 1, 5, 0⟩, ⟨20, 2, 5, 0⟩]) _ _ _ _ ⟨25, 3, 7, 5⟩ rfl rfl rfl rfl rfl HM.out (seeP (by decide)) (by decide) ?_; intro w1 hm hT; have HM : Hid (PMap w1 _ [⟨7, 3, 5, 0⟩, ⟨15, 1, 5, 0⟩, ⟨20, 2, 5, 0⟩, ⟨25, 3, 7, 5⟩]) := Lib.hid hm; have HB := Lib.hid (HB.out.turn hbig hT); clear hm hT; obtain ⟨c00, c01, c02⟩ := HB.out.c00; obtain ⟨c10, c11, c12⟩ := HB.out.c10; obtain ⟨c20, c21, c22⟩ := HB.out.c20))
  go_ret
  exact ⟨some W0.heap.size, rfl, .inr ⟨_, rfl, HM.out⟩, HB.out.low, fun b h => by cases h; omega⟩
theorem parts_5 (w : World) : Calls Tryd.prog 32 #[.int .i64 5] w fun e w' => ∃ m, e = .returned (.map m) ∧ PartsAt w' m (ptsOf 5) ∧ Below w.heap.size w w' ∧ ∀ b, m = some b → w.heap.size ≤ b := by
  have HN := Lib.hid (Boxes.news w)
  go_enter Tryd.func32, Tryd.ntmps32
  go_upto_region 16 with (fail)
  obtain ⟨W0, hW0⟩ : ∃ W0, W0 = (((w.alloc (.cells #[.int .i64 0, .int .i64 5, .int .i64 0] 64)).alloc (.cells #[.int .i64 1, .int .i64 5, .int .i64 0] 64)).alloc (.cells #[.int .i64 2, .int .i64 5, .int .i64 0] 64)) := ⟨_, rfl⟩
  rw [← hW0] at HN ⊢
  clear hW0
  have HB := Lib.hid (HN.out.alloc (.map #[] 0))
  have HM := Lib.hid (PMap.news W0)
  have hbig : w.heap.size + 3 ≤ W0.heap.size := HN.out.big
  have hb0 : W0.heap.size < (W0.alloc (.map #[] 0)).heap.size := by simp
  clear hb0
  have hmk := run_mkmap W0
  obtain ⟨c00, c01, c02⟩ := HB.out.c00; obtain ⟨c10, c11, c12⟩ := HB.out.c10; obtain ⟨c20, c21, c22⟩ := HB.out.c20
  go_wp2_with (first
    | (refine wpList_insP (ps := []) _ _ _ _ ⟨7, 0, 5, 0⟩ rfl rfl rfl rfl rfl HM.out (seeP (by decide)) (by decide) ?_; intro w1 hm hT; have HM : Hid (PMap w1 _ [⟨7, 0, 5, 0⟩]) := Lib.hid hm; have HB := Lib.hid (HB.out.turn hbig hT); clear hm hT; obtain ⟨c00, c01, c02⟩ := HB.out.c00; obtain ⟨c10, c11, c12⟩ := HB.out.c10; obtain ⟨c20, c21, c22⟩ := HB.out.c20)
    | (refine wpList_insP (ps := [⟨7, 0, 5, 0⟩]) _ _ _ _ ⟨15, 1, 5, 0⟩ rfl rfl rfl rfl rfl HM.out (seeP (by decide)) (by decide) ?_; intro w1 hm hT; have HM : Hid (PMap w1 _ [⟨7, 0, 5, 0⟩, ⟨15, 1, 5, 0⟩]) := Lib.hid hm; have HB := Lib.hid (HB.out.turn hbig hT); clear hm hT; obtain ⟨c00, c01, c02⟩ := HB.out.c00; obtain ⟨c10, c11, c12⟩ := HB.out.c10; obtain ⟨c20, c21, c22⟩ := HB.out.c20)
    | (refine wpList_insP (ps := [⟨7, 0, 5, 0⟩, ⟨15, 1, 5, 0⟩]) _ _ _ _ ⟨20, 2, 5, 0⟩ rfl rfl rfl rfl rfl HM.out (seeP (by decide)) (by decide) ?_; intro w1 hm hT; have HM : Hid (PMap w1 _ [⟨7, 0, 5, 0⟩, ⟨15, 1, 5, 0⟩, ⟨20, 2, 5, 0⟩]) := Lib.hid hm; have HB := Lib.hid (HB.out.turn hbig hT); clear hm hT; obtain ⟨c00, c01, c02⟩ := HB.out.c00; obtain ⟨c10, c11, c12⟩ := HB.out.c10; obtain ⟨c20, c21, c22⟩ := HB.out.c20))
  go_ret
  exact ⟨some W0.heap.size, rfl, .inr ⟨_, rfl, HM.out⟩, HB.out.low, fun b h => by cases h; omega⟩
theorem parts_6 (w : World) : Calls Tryd.prog 32 #[.int .i64 6] w fun e w' => ∃ m, e = .returned (.map m) ∧ PartsAt w' m (ptsOf 6) ∧ Below w.heap.size w w' ∧ ∀ b, m = some b → w.heap.size ≤ b := by
  have HN := Lib.hid (Boxes.news w)
  go_enter Tryd.func32, Tryd.ntmps32
  go_upto_region 18 with (fail)
  obtain ⟨W0, hW0⟩ : ∃ W0, W0 = (((w.alloc (.cells #[.int .i64 0, .int .i64 5, .int .i64 0] 64)).alloc (.cells #[.int .i64 1, .int .i64 5, .int .i64 0] 64)).alloc (.cells #[.int .i64 2, .int .i64 5, .int .i64 0] 64)) := ⟨_, rfl⟩
  rw [← hW0] at HN ⊢
  clear hW0
  have HB := Lib.hid (HN.out.alloc (.map #[] 0))
  have HM := Lib.hid (PMap.news W0)
  have hbig : w.heap.size + 3 ≤ W0.heap.size := HN.out.big
  have hb0 : W0.heap.size < (W0.alloc (.map #[] 0)).heap.size := by simp
  clear hb0
  have hmk := run_mkmap W0
  obtain ⟨c00, c01, c02⟩ := HB.out.c00; obtain ⟨c10, c11, c12⟩ := HB.out.c10; obtain ⟨c20, c21, c22⟩ := HB.out.c20
  go_wp2_with (first
    | (refine wpList_insP (ps := []) _ _ _ _ ⟨7, 0, 5, 0⟩ rfl rfl rfl rfl rfl HM.out (seeP (by decide)) (by decide) ?_; intro w1 hm hT; have HM : Hid (PMap w1 _ [⟨7, 0, 5, 0⟩]) := Lib.hid hm; have HB := Lib.hid (HB.out.turn hbig hT); clear hm hT; obtain ⟨c00, c01, c02⟩ := HB.out.c00; obtain ⟨c10, c11, c12⟩ := HB.out.c10; obtain ⟨c20, c21, c22⟩ := HB.out.c20)
    | (refine wpList_insP (ps := [⟨7, 0, 5, 0⟩]) _ _ _ _ ⟨15, 1, 5, 0⟩ rfl rfl rfl rfl rfl HM.out (seeP (by decide)) (by decide) ?_; intro w1 hm hT; have HM : Hid (PMap w1 _ [⟨7, 0, 5, 0⟩, ⟨15, 1, 5, 0⟩]) := Lib.hid hm; have HB := Lib.hid (HB.out.turn hbig hT); clear hm hT; obtain ⟨c00, c01, c02⟩ := HB.out.c00; obtain ⟨c10, c11, c12⟩ := HB.out.c10; obtain ⟨c20, c21, c22⟩ := HB.out.c20)
    | (refine wpList_insP (ps := [⟨7, 0, 5, 0⟩, ⟨15, 1, 5, 0⟩]) _ _ _ _ ⟨20, 3, 5, 0⟩ rfl rfl rfl rfl rfl HM.out (seeP (by decide)) (by decide) ?_; intro w1 hm hT; have HM : Hid (PMap w1 _ [⟨7, 0, 5, 0⟩, ⟨15, 1, 5, 0⟩, ⟨20, 3, 5, 0⟩]) := Lib.hid hm; have HB := Lib.hid (HB.out.turn hbig hT); clear hm hT; obtain ⟨c00, c01, c02⟩ := HB.out.c00; obtain ⟨c10, c11, c12⟩ := HB.out.c10; obtain ⟨c20, c21, c22⟩ := HB.out.c20))
  go_ret
  exact ⟨some W0.heap.size, rfl, .inr ⟨_, rfl, HM.out⟩, HB.out.low, fun b h => by cases h; omega⟩
theorem parts_7 (w : World) : Calls Tryd.prog 32 #[.int .i64 7] w fun e w' => ∃ m, e = .returned (.map m) ∧ PartsAt w' m (ptsOf 7) ∧ Below w.heap.size w w' ∧ ∀ b, m = some b → w.heap.size ≤ b := by
  have HN := Lib.hid (Boxes.news w)
  go_enter Tryd.func32, Tryd.ntmps32
  go_upto_region 20 with (fail)
  obtain ⟨W0, hW0⟩ : ∃ W0, W0 = (((w.alloc (.cells #[.int .i64 0, .int .i64 5, .int .i64 0] 64)).alloc (.cells #[.int .i64 1, .int .i64 5, .int .i64 0] 64)).alloc (.cells #[.int .i64 2, .int .i64 5, .int .i64 0] 64)) := ⟨_, rfl⟩
  rw [← hW0] at HN ⊢
  clear hW0
  have HB := Lib.hid (HN.out.alloc (.map #[] 0))
  have HM := Lib.hid (PMap.news W0)
  have hbig : w.heap.size + 3 ≤ W0.heap.size := HN.out.big
  have hb0 : W0.heap.size < (W0.alloc (.map #[] 0)).heap.size := by simp
  clear hb0
  have hmk := run_mkmap W0
  obtain ⟨c00, c01, c02⟩ := HB.out.c00; obtain ⟨c10, c11, c12⟩ := HB.out.c10; obtain ⟨c20, c21, c22⟩ := HB.out.c20
  go_wp2_with (first
    | (refine wpList_insP (ps := []) _ _ _ _ ⟨7, 0, 5, 0⟩ rfl rfl rfl rfl rfl HM.out (seeP (by decide)) (by decide) ?_; intro w1 hm hT; have HM : Hid (PMap w1 _ [⟨7, 0, 5, 0⟩]) := Lib.hid hm; have HB := Lib.hid (HB.out.turn hbig hT); clear hm hT; obtain ⟨c00, c01, c02⟩ := HB.out.c00; obtain ⟨c10, c11, c12⟩ := HB.out.c10; obtain ⟨c20, c21, c22⟩ := HB.out.c20)
    | (refine wpList_insP (ps := [⟨7, 0, 5, 0⟩]) _ _ _ _ ⟨15, 1, 5, 0⟩ rfl rfl rfl rfl rfl HM.out (seeP (by decide)) (by decide) ?_; intro w1 hm hT; have HM : Hid (PMap w1 _ [⟨7, 0, 5, 0⟩, ⟨15, 1, 5, 0⟩]) := Lib.hid hm; have HB := Lib.hid (HB.out.turn hbig hT); clear hm hT; obtain ⟨c00, c01, c02⟩ := HB.out.c00; obtain ⟨c10, c11, c12⟩ := HB.out.c10; obtain ⟨c20, c21, c22⟩ := HB.out.c20)
    | (refine wpList_insP (ps := [⟨7, 0, 5, 0⟩, ⟨15, 1, 5, 0⟩]) _ _ _ _ ⟨20, 2, 5, 0⟩ rfl rfl rfl rfl rfl HM.out (seeP (by decide)) (by decide) ?_; intro w1 hm hT; have HM : Hid (PMap w1 _ [⟨7, 0, 5, 0⟩, ⟨15, 1, 5, 0⟩, ⟨20, 2, 5, 0⟩]) := Lib.hid hm; have HB := Lib.hid (HB.out.turn hbig hT); clear hm hT; obtain ⟨c00, c01, c02⟩ := HB.out.c00; obtain ⟨c10, c11, c12⟩ := HB.out.c10; obtain ⟨c20, c21, c22⟩ := HB.out.c20)
    | (refine wpList_insP (ps := [⟨7, 0, 5, 0⟩, ⟨15, 1, 5, 0⟩, ⟨20, 2, 5, 0⟩]) _ _ _ _ ⟨25, 3, 2, 0⟩ rfl rfl rfl rfl rfl HM.out (seeP (by decide)) (by decide) ?_; intro w1 hm hT; have HM : Hid (PMap w1 _ [⟨7, 0, 5, 0⟩, ⟨15, 1, 5, 0⟩, ⟨20, 2, 5, 0⟩, ⟨25, 3, 2, 0⟩]) := Lib.hid hm; have HB := Lib.hid (HB.out.turn hbig hT); clear hm hT; obtain ⟨c00, c01, c02⟩ := HB.out.c00; obtain ⟨c10, c11, c12⟩ := HB.out.c10; obtain ⟨c20, c21, c22⟩ := HB.out.c20))
  go_ret
  exact ⟨some W0.heap.size, rfl, .inr ⟨_, rfl, HM.out⟩, HB.out.low, fun b h => by cases h; omega⟩
theorem parts_8 (w : World) : Calls Tryd.prog 32 #[.int .i64 8] w fun e w' => ∃ m, e = .returned (.map m) ∧ PartsAt w' m (ptsOf 8) ∧ Below w.heap.size w w' ∧ ∀ b, m = some b → w.heap.size ≤ b := by
  have HN := Lib.hid (Boxes.news w)
  go_enter Tryd.func32, Tryd.ntmps32
  go_upto_region 22 with (fail)
  obtain ⟨W0, hW0⟩ : ∃ W0, W0 = (((w.alloc (.cells #[.int .i64 0, .int .i64 5, .int .i64 0] 64)).alloc (.cells #[.int .i64 1, .int .i64 5, .int .i64 0] 64)).alloc (.cells #[.int .i64 2, .int .i64 5, .int .i64 0] 64)) := ⟨_, rfl⟩
  rw [← hW0] at HN ⊢
  clear hW0
  have HB := Lib.hid (HN.out.alloc (.map #[] 0))
  have HM := Lib.hid (PMap.news W0)
  have hbig : w.heap.size + 3 ≤ W0.heap.size := HN.out.big
  have hb0 : W0.heap.size < (W0.alloc (.map #[] 0)).heap.size := by simp
  clear hb0
  have hmk := run_mkmap W0
  obtain ⟨c00, c01, c02⟩ := HB.out.c00; obtain ⟨c10, c11, c12⟩ := HB.out.c10; obtain ⟨c20, c21, c22⟩ := HB.out.c20
  go_wp2_with (first
    | (refine wpList_insP (ps := []) _ _ _ _ ⟨7, 0, 5, 0⟩ rfl rfl rfl rfl rfl HM.out (seeP (by decide)) (by decide) ?_; intro w1 hm hT; have HM : Hid (PMap w1 _ [⟨7, 0, 5, 0⟩]) := Lib.hid hm; have HB := Lib.hid (HB.out.turn hbig hT); clear hm hT; obtain ⟨c00, c01, c02⟩ := HB.out.c00; obtain ⟨c10, c11, c12⟩ := HB.out.c10; obtain ⟨c20, c21, c22⟩ := HB.out.c20)
    | (refine wpList_insP (ps := [⟨7, 0, 5, 0⟩]) _ _ _ _ ⟨15, 1, 5, 0⟩ rfl rfl rfl rfl rfl HM.out (seeP (by decide)) (by decide) ?_; intro w1 hm hT; have HM : Hid (PMap w1 _ [⟨7, 0, 5, 0⟩, ⟨15, 1, 5, 0⟩]) := Lib.hid hm; have HB := Lib.hid (HB.out.turn hbig hT); clear hm hT; obtain ⟨c00, c01, c02⟩ := HB.out.c00; obtain ⟨c10, c11, c12⟩ := HB.out.c10; obtain ⟨c20, c21, c22⟩ := HB.out.c20)
    | (refine wpList_insP (ps := [⟨7, 0, 5, 0⟩, ⟨15, 1, 5, 0⟩]) _ _ _ _ ⟨25, 3, 2, 0⟩ rfl rfl rfl rfl rfl HM.out (seeP (by decide)) (by decide) ?_; intro w1 hm hT; have HM : Hid (PMap w1 _ [⟨7, 0, 5, 0⟩, ⟨15, 1, 5, 0⟩, ⟨25, 3, 2, 0⟩]) := Lib.hid hm; have HB := Lib.hid (HB.out.turn hbig hT); clear hm hT; obtain ⟨c00, c01, c02⟩ := HB.out.c00; obtain ⟨c10, c11, c12⟩ := HB.out.c10; obtain ⟨c20, c21, c22⟩ := HB.out.c20))
  go_ret
  exact ⟨some W0.heap.size, rfl, .inr ⟨_, rfl, HM.out⟩, HB.out.low, fun b h => by cases h; omega⟩
theorem parts_9 (w : World) : Calls Tryd.prog 32 #[.int .i64 9] w fun e w' => ∃ m, e = .returned (.map m) ∧ PartsAt w' m (ptsOf 9) ∧ Below w.heap.size w w' ∧ ∀ b, m = some b → w.heap.size ≤ b := by
  have HN := Lib.hid (Boxes.news w)
  go_enter Tryd.func32, Tryd.ntmps32
  go_upto_region 10 with (fail)
  obtain ⟨W0, hW0⟩ : ∃ W0, W0 = (((w.alloc (.cells #[.int .i64 0, .int .i64 5, .int .i64 0] 64)).alloc (.cells #[.int .i64 1, .int .i64 5, .int .i64 0] 64)).alloc (.cells #[.int .i64 2, .int .i64 5, .int .i64 0] 64)) := ⟨_, rfl⟩
  rw [← hW0] at HN ⊢
  clear hW0
  have HB := Lib.hid (HN.out.alloc (.map #[] 0))
  have HM := Lib.hid (PMap.news W0)
  have hbig : w.heap.size + 3 ≤ W0.heap.size := HN.out.big
  have hb0 : W0.heap.size < (W0.alloc (.map #[] 0)).heap.size := by simp
  clear hb0
  have hmk := run_mkmap W0
  obtain ⟨c00, c01, c02⟩ := HB.out.c00; obtain ⟨c10, c11, c12⟩ := HB.out.c10; obtain ⟨c20, c21, c22⟩ := HB.out.c20
  go_wp2_with (first
    | (refine wpList_insP (ps := []) _ _ _ _ ⟨7, 0, 5, 0⟩ rfl rfl rfl rfl rfl HM.out (seeP (by decide)) (by decide) ?_; intro w1 hm hT; have HM : Hid (PMap w1 _ [⟨7, 0, 5, 0⟩]) := Lib.hid hm; have HB := Lib.hid (HB.out.turn hbig hT); clear hm hT; obtain ⟨c00, c01, c02⟩ := HB.out.c00; obtain ⟨c10, c11, c12⟩ := HB.out.c10; obtain ⟨c20, c21, c22⟩ := HB.out.c20)
    | (refine wpList_insP (ps := [⟨7, 0, 5, 0⟩]) _ _ _ _ ⟨15, 1, 5, 0⟩ rfl rfl rfl rfl rfl HM.out (seeP (by decide)) (by decide) ?_; intro w1 hm hT; have HM : Hid (PMap w1 _ [⟨7, 0, 5, 0⟩, ⟨15, 1, 5, 0⟩]) := Lib.hid hm; have HB := Lib.hid (HB.out.turn hbig hT); clear hm hT; obtain ⟨c00, c01, c02⟩ := HB.out.c00; obtain ⟨c10, c11, c12⟩ := HB.out.c10; obtain ⟨c20, c21, c22⟩ := HB.out.c20)
    | (refine wpList_insP (ps := [⟨7, 0, 5, 0⟩, ⟨15, 1, 5, 0⟩]) _ _ _ _ ⟨20, 3, 12, 0⟩ rfl rfl rfl rfl rfl HM.out (seeP (by decide)) (by decide) ?_; intro w1 hm hT; have HM : Hid (PMap w1 _ [⟨7, 0, 5, 0⟩, ⟨15, 1, 5, 0⟩, ⟨20, 3, 12, 0⟩]) := Lib.hid hm; have HB := Lib.hid (HB.out.turn hbig hT); clear hm hT; obtain ⟨c00, c01, c02⟩ := HB.out.c00; obtain ⟨c10, c11, c12⟩ := HB.out.c10; obtain ⟨c20, c21, c22⟩ := HB.out.c20))
  go_ret
  exact ⟨some W0.heap.size, rfl, .inr ⟨_, rfl, HM.out⟩, HB.out.low, fun b h => by cases h; omega⟩
theorem parts_10 (w : World) : Calls Tryd.prog 32 #[.int .i64 10] w fun e w' => ∃ m, e = .returned (.map m) ∧ PartsAt w' m (ptsOf 10) ∧ Below w.heap.size w w' ∧ ∀ b, m = some b → w.heap.size ≤ b := by
  have HN := Lib.hid (Boxes.news w)
  go_enter Tryd.func32, Tryd.ntmps32
  go_wp2
  go_ret
  exact ⟨none, rfl, .inl ⟨rfl, rfl⟩, HN.out.low, fun _ h => by cases h⟩
theorem parts_11 (w : World) : Calls Tryd.prog 32 #[.int .i64 11] w fun e w' => ∃ m, e = .returned (.map m) ∧ PartsAt w' m (ptsOf 11) ∧ Below w.heap.size w w' ∧ ∀ b, m = some b → w.heap.size ≤ b := by
  have HN := Lib.hid (Boxes.news w)
  go_enter Tryd.func32, Tryd.ntmps32
  go_upto_region 24 with (fail)
  obtain ⟨W0, hW0⟩ : ∃ W0, W0 = (((w.alloc (.cells #[.int .i64 0, .int .i64 5, .int .i64 0] 64)).alloc (.cells #[.int .i64 1, .int .i64 5, .int .i64 0] 64)).alloc (.cells #[.int .i64 2, .int .i64 5, .int .i64 0] 64)) := ⟨_, rfl⟩
  rw [← hW0] at HN ⊢
  clear hW0
  have HB := Lib.hid (HN.out.alloc (.map #[] 0))
  have HM := Lib.hid (PMap.news W0)
  have hbig : w.heap.size + 3 ≤ W0.heap.size := HN.out.big
  have hb0 : W0.heap.size < (W0.alloc (.map #[] 0)).heap.size := by simp
  clear hb0
  have hmk := run_mkmap W0
  obtain ⟨c00, c01, c02⟩ := HB.out.c00; obtain ⟨c10, c11, c12⟩ := HB.out.c10; obtain ⟨c20, c21, c22⟩ := HB.out.c20
  go_wp2_with (first
    | (refine wpList_insP (ps := []) _ _ _ _ ⟨15, 1, 5, 0⟩ rfl rfl rfl rfl rfl HM.out (seeP (by decide)) (by decide) ?_; intro w1 hm hT; have HM : Hid (PMap w1 _ [⟨15, 1, 5, 0⟩]) := Lib.hid hm; have HB := Lib.hid (HB.out.turn hbig hT); clear hm hT; obtain ⟨c00, c01, c02⟩ := HB.out.c00; obtain ⟨c10, c11, c12⟩ := HB.out.c10; obtain ⟨c20, c21, c22⟩ := HB.out.c20)
    | (refine wpList_insP (ps := [⟨15, 1, 5, 0⟩]) _ _ _ _ ⟨20, 2, 5, 0⟩ rfl rfl rfl rfl rfl HM.out (seeP (by decide)) (by decide) ?_; intro w1 hm hT; have HM : Hid (PMap w1 _ [⟨15, 1, 5, 0⟩, ⟨20, 2, 5, 0⟩]) := Lib.hid hm; have HB := Lib.hid (HB.out.turn hbig hT); clear hm hT; obtain ⟨c00, c01, c02⟩ := HB.out.c00; obtain ⟨c10, c11, c12⟩ := HB.out.c10; obtain ⟨c20, c21, c22⟩ := HB.out.c20))
  go_ret
  exact ⟨some W0.heap.size, rfl, .inr ⟨_, rfl, HM.out⟩, HB.out.low, fun b h => by cases h; omega⟩
theorem parts_12 (w : World) : Calls Tryd.prog 32 #[.int .i64 12] w fun e w' => ∃ m, e = .returned (.map m) ∧ PartsAt w' m (ptsOf 12) ∧ Below w.heap.size w w' ∧ ∀ b, m = some b → w.heap.size ≤ b := by
  have HN := Lib.hid (Boxes.news w)
  go_enter Tryd.func32, Tryd.ntmps32
  go_upto_region 10 with (fail)
  obtain ⟨W0, hW0⟩ : ∃ W0, W0 = (((w.alloc (.cells #[.int .i64 0, .int .i64 5, .int .i64 0] 64)).alloc (.cells #[.int .i64 1, .int .i64 5, .int .i64 0] 64)).alloc (.cells #[.int .i64 2, .int .i64 5, .int .i64 0] 64)) := ⟨_, rfl⟩
  rw [← hW0] at HN ⊢
  clear hW0
  have HB := Lib.hid (HN.out.alloc (.map #[] 0))
  have HM := Lib.hid (PMap.news W0)
  have hbig : w.heap.size + 3 ≤ W0.heap.size := HN.out.big
  have hb0 : W0.heap.size < (W0.alloc (.map #[] 0)).heap.size := by simp
  clear hb0
  have hmk := run_mkmap W0
  obtain ⟨c00, c01, c02⟩ := HB.out.c00; obtain ⟨c10, c11, c12⟩ := HB.out.c10; obtain ⟨c20, c21, c22⟩ := HB.out.c20
  go_wp2_with (first
    | (refine wpList_insP (ps := []) _ _ _ _ ⟨7, 0, 5, 0⟩ rfl rfl rfl rfl rfl HM.out (seeP (by decide)) (by decide) ?_; intro w1 hm hT; have HM : Hid (PMap w1 _ [⟨7, 0, 5, 0⟩]) := Lib.hid hm; have HB := Lib.hid (HB.out.turn hbig hT); clear hm hT; obtain ⟨c00, c01, c02⟩ := HB.out.c00; obtain ⟨c10, c11, c12⟩ := HB.out.c10; obtain ⟨c20, c21, c22⟩ := HB.out.c20)
    | (refine wpList_insP (ps := [⟨7, 0, 5, 0⟩]) _ _ _ _ ⟨15, 1, 5, 0⟩ rfl rfl rfl rfl rfl HM.out (seeP (by decide)) (by decide) ?_; intro w1 hm hT; have HM : Hid (PMap w1 _ [⟨7, 0, 5, 0⟩, ⟨15, 1, 5, 0⟩]) := Lib.hid hm; have HB := Lib.hid (HB.out.turn hbig hT); clear hm hT; obtain ⟨c00, c01, c02⟩ := HB.out.c00; obtain ⟨c10, c11, c12⟩ := HB.out.c10; obtain ⟨c20, c21, c22⟩ := HB.out.c20)
    | (refine wpList_insP (ps := [⟨7, 0, 5, 0⟩, ⟨15, 1, 5, 0⟩]) _ _ _ _ ⟨20, 3, 12, 0⟩ rfl rfl rfl rfl rfl HM.out (seeP (by decide)) (by decide) ?_; intro w1 hm hT; have HM : Hid (PMap w1 _ [⟨7, 0, 5, 0⟩, ⟨15, 1, 5, 0⟩, ⟨20, 3, 12, 0⟩]) := Lib.hid hm; have HB := Lib.hid (HB.out.turn hbig hT); clear hm hT; obtain ⟨c00, c01, c02⟩ := HB.out.c00; obtain ⟨c10, c11, c12⟩ := HB.out.c10; obtain ⟨c20, c21, c22⟩ := HB.out.c20))
  go_ret
  exact ⟨some W0.heap.size, rfl, .inr ⟨_, rfl, HM.out⟩, HB.out.low, fun b h => by cases h; omega⟩
theorem partsOf_any {f : Nat} (hf : f < 13) (w : World) : Calls Tryd.prog 32 #[.int .i64 f] w fun e w' => ∃ m, e = .returned (.map m) ∧ PartsAt w' m (ptsOf f) ∧ Below w.heap.size w w' ∧ ∀ b, m = some b → w.heap.size ≤ b := by
  have c : f = 0 ∨ f = 1 ∨ f = 2 ∨ f = 3 ∨ f = 4 ∨ f = 5 ∨ f = 6 ∨ f = 7 ∨ f = 8 ∨ f = 9 ∨ f = 10 ∨ f = 11 ∨ f = 12 := by omega
  rcases c with rfl | rfl | rfl | rfl | rfl | rfl | rfl | rfl | rfl | rfl | rfl | rfl | rfl
  · exact parts_0 w
  · exact parts_1 w
  · exact parts_2 w
  · exact parts_3 w
  · exact parts_4 w
  · exact parts_5 w
  · exact parts_6 w
  · exact parts_7 w
  · exact parts_8 w
  · exact parts_9 w
  · exact parts_10 w
  · exact parts_11 w
  · exact parts_12 w
end Go.Proofs.YtdloaeifiohefaaDoor
