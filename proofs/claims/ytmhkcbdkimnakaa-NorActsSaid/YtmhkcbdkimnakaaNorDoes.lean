/- Contract of the helper does: an act on a chip, and on the document's: both answer alike, and are alike behind it. -/
import Derived.Test.YtmhkcbdkimnakaaNorRef8
import Derived.Test.YtmhkcbdkimnakaaNor5
import Derived.Test.YtmhkcbdkimnakaaLaw
namespace Go.Proofs.Ytmhkcbdkimnakaa
open Go.RowKit Bm
attribute [local go_sem ↓] Go.wp_at_zero Go.wp_at_succ

def mAct (d : ChipM) (x : ActM) : ChipM :=
  if x.kind % 8 = 3 then (mErase d x.at_).1 else if x.kind % 8 = 4 then d else if x.kind % 8 = 5 then mFuse d x.at_ x.v else if x.kind % 8 = 6 then mCut d else if x.kind % 8 = 7 then mOn d else (mProgram d x.at_ x.v).1
theorem mAct_ok {k : Nat} {d : ChipM} (ok : ChipOk k d) (x : ActM) (hx : x.at_ ≤ 9223372036854775807) : ChipOk k (mAct d x) := by
  unfold mAct
  split
  · exact ok.erase _
  · split
    · exact ok
    · split
      · exact ok.fuse _ _ hx
      · split
        · exact ok.cut
        · split
          · exact ok.on
          · exact ok.program _ _

def actVal (x : ActM) : Value := .agg #[.int .u8 x.kind, .int .i64 x.at_, .int .u32 (U x.v)]
def actCells (x : ActM) : List Value := [.int .u8 x.kind, .int .i64 x.at_, .int .u32 (U x.v)]
def DoesOut (w : World) (h : Hd) (r : Rh) (d : ChipM) (e : Ending) (w' : World) : Prop := ∃ r', e = .returned (.tuple #[refVal r' d, .bool true]) ∧ ChipAt w' h d ∧ RefAt w' r' d ∧ RefNew w r r' ∧ Turned h.own w w'

/-- What stands in memory behind the helper's own boxes: the document's chip, the act, the result's. -/
structure DoesIn (w W : World) (h : Hd) (r : Rh) (d : ChipM) (x : ActM) (P : Nat) : Prop where
  p : P = w.heap.size
  size : P + 2 < W.heap.size
  below : Below w.heap.size w W
  chip : ChipAt W h d
  rf : RefAt W r d
  b0 : At W P 30 (refCells r d)
  b1 : At W (P + 1) 33 (actCells x)
  b2 : At W (P + 2) 30 refZero
  own : ∀ i, h.own i → i < P
  n1 : ¬ h.own r.gw
  n2 : ¬ h.own r.ge

theorem does_in (w : World) (h : Hd) (r : Rh) (d : ChipM) (x : ActM) (hc : ChipAt w h d) (hr : RefAt w r d) (n1 : ¬ h.own r.gw) (n2 : ¬ h.own r.ge) :
    DoesIn w (((w.alloc (.cells (refCells r d).toArray 30)).alloc (.cells (actCells x).toArray 33)).alloc (.cells refZero.toArray 30)) h r d x w.heap.size := by
  have hB : Below w.heap.size w (((w.alloc (.cells (refCells r d).toArray 30)).alloc (.cells (actCells x).toArray 33)).alloc (.cells refZero.toArray 30)) := (below_two w _ _).alloc (by rw [World.size_alloc, World.size_alloc]; omega) _
  have s1 : (w.alloc (.cells (refCells r d).toArray 30)).heap.size = w.heap.size + 1 := World.size_alloc _ _
  have s2 : ((w.alloc (.cells (refCells r d).toArray 30)).alloc (.cells (actCells x).toArray 33)).heap.size = w.heap.size + 2 := by rw [World.size_alloc, s1]
  have a1 := At.news (w.alloc (.cells (refCells r d).toArray 30)) 33 (actCells x)
  have a2 := At.news ((w.alloc (.cells (refCells r d).toArray 30)).alloc (.cells (actCells x).toArray 33)) 30 refZero
  rw [s1] at a1
  rw [s2] at a2
  refine ⟨rfl, by rw [World.size_alloc, s2]; omega, hB, hc.kept (Turned.of_below hB (Nat.le_refl _) NoBlock) (fun _ _ h => h), hr.below hB, ((At.news w _ _).alloc _).alloc _, a1.alloc _, a2, ?_, n1, n2⟩
  intro i hi
  rcases hi with rfl | rfl | rfl
  · exact hc.own.lt
  · exact hc.words.lt
  · exact hc.wear.lt

theorem does_end {w W : World} {h : Hd} {r r' : Rh} {d' : ChipM} {P : Nat} (hp : P = w.heap.size) (own : ∀ i, h.own i → i < P) (hz : At W (P + 2) 30 refZero) (hc : ChipAt W h d') (hr : RefAt W r' d') (hn : RefNew w r r') (ht : Turned h.own w W) :
    DoesOut w h r d' (.returned (.tuple #[.agg #[.slice (some ⟨r'.gw, 0, none⟩) d'.ws.length r'.cw, .slice (some ⟨r'.ge, 0, none⟩) d'.wear.length r'.ce, .int .i64 d'.endure, .int .i64 d'.left, .int .u32 (U d'.pick), .bool (!d'.up)], .bool true]))
      (six W (P + 2) (.slice (some ⟨r'.gw, 0, none⟩) d'.ws.length r'.cw) (.slice (some ⟨r'.ge, 0, none⟩) d'.wear.length r'.ce) (.int .i64 d'.endure) (.int .i64 d'.left) (.int .u32 (U d'.pick)) (.bool (!d'.up))) := by
  have T9 := (Turned.refl (Just (P + 2)) W).six (P := P + 2) (fun _ => rfl) (.slice (some ⟨r'.gw, 0, none⟩) d'.ws.length r'.cw) (.slice (some ⟨r'.ge, 0, none⟩) d'.wear.length r'.ce) (.int .i64 d'.endure) (.int .i64 d'.left) (.int .u32 (U d'.pick)) (.bool (!d'.up))
  have n1 : r'.gw ≠ P + 2 := hr.words.ne hz (by decide)
  have n2 : r'.ge ≠ P + 2 := hr.wear.ne hz (by decide)
  exact ⟨r', rfl, hc.kept T9 (fun i hi e => by have a := own i hi; have b : i = P + 2 := e; omega), hr.kept T9 n1 n2, hn, ht.after T9 (fun i hi e => by have b : i = P + 2 := e; omega)⟩
theorem At.all3 {w : World} {P : Nat} {t : TypeId} {z0 z1 z2 : Value} (h : At w P t [z0, z1, z2]) : w.cell? ⟨P, 0, none⟩ = some z0 ∧ w.cell? ⟨P, 1, none⟩ = some z1 ∧ w.cell? ⟨P, 2, none⟩ = some z2 := ⟨h.cell 0, h.cell 1, h.cell 2⟩
/-- Behind the chip's own call the boxes are as they were. -/
theorem DoesIn.keep {w W W' : World} {h : Hd} {r : Rh} {d : ChipM} {x : ActM} {P : Nat} (D : DoesIn w W h r d x P) (ht : Turned h.own W W') :
    At W' P 30 (refCells r d) ∧ At W' (P + 1) 33 (actCells x) ∧ At W' (P + 2) 30 refZero ∧ RefAt W' r d ∧ Turned h.own w W' :=
  ⟨D.b0.kept ht (fun e => by have := D.own _ e; omega), D.b1.kept ht (fun e => by have := D.own _ e; omega), D.b2.kept ht (fun e => by have := D.own _ e; omega), D.rf.kept ht D.n1 D.n2,
   (Turned.of_below D.below (Nat.le_refl _) h.own).trans ht⟩

set_option maxHeartbeats 2000000 in
theorem does_on (w : World) (h : Hd) (r : Rh) (d : ChipM) (k : Nat) (x : ActM) (hc : ChipAt w h d) (hr : RefAt w r d) (n1 : ¬ h.own r.gw) (n2 : ¬ h.own r.ge) (ok : ChipOk k d) (b0 : 0 ≤ x.kind ∧ x.kind ≤ 255) (hk : x.kind % 8 = 7) :
    Calls Try.prog 14 #[.pointer (some ⟨h.p, 0, none⟩), refVal r d, actVal x] w (DoesOut w h r (mOn d)) := by
  have D := does_in w h r d x hc hr n1 n2
  have k3 : (x.kind % 8 == 3) = false := by rw [beq_eq_false_iff_ne]; omega
  have k4 : (x.kind % 8 == 4) = false := by rw [beq_eq_false_iff_ne]; omega
  have k5 : (x.kind % 8 == 5) = false := by rw [beq_eq_false_iff_ne]; omega
  have k6 : (x.kind % 8 == 6) = false := by rw [beq_eq_false_iff_ne]; omega
  have k7 : (x.kind % 8 == 7) = true := by rw [beq_iff_eq]; exact hk
  have hw1 : 1 ≤ d.wear.length := by have := ok.wears; have := ok.k1; omega
  have hw2 : 1 ≤ d.ws.length := by have := ok.words; have := ok.k1; omega
  have DD := Lib.hid D
  simp only [refCells, actCells, refZero] at D
  have CH := Lib.hid (on_any h d _ D.chip hw1)
  clear D hk hc hr
  obtain ⟨P, hP⟩ : ∃ P, P = w.heap.size := ⟨_, rfl⟩
  unfold refVal actVal
  go_enter Try.func14, Try.ntmps14
  go_wp2_with fail
  refine Calls.mono CH.out ?_
  rintro e w4 ⟨rfl, hc4, ht4⟩
  obtain ⟨B0, B1, B2, hr4, htw⟩ := DD.out.keep ht4
  have HP := Lib.hid hP
  rw [← hP] at B0 B1 B2 ⊢
  clear hP
  simp only [refCells, actCells, refZero] at B0 B1 B2
  obtain ⟨c0, c1, c2, c3, c4, c5⟩ := B0.all6
  obtain ⟨a0, a1, a2⟩ := B1.all3
  go_wp2_with fail
  refine (ron_any r d w4).mono ?_
  rintro e w5 ⟨rfl, hB⟩
  have B25 := B2.kept (Turned.of_below hB (Nat.le_refl _) NoBlock) (fun h => h)
  have hc5 := hc4.kept (Turned.of_below hB (Nat.le_refl _) NoBlock) (fun _ _ h => h)
  have hr5 : RefAt w5 r (mOn d) := ⟨(hr4.below hB).words, (hr4.below hB).wear, hr4.wl, hr4.el, hr4.wm, hr4.em⟩
  have hn5 : RefNew w r r := RefNew.refl _ _
  have ht5 : Turned h.own w w5 := htw.trans (Turned.of_below hB (Nat.le_refl _) h.own)
  obtain ⟨f, hf⟩ : ∃ f, f = mOn d := ⟨_, rfl⟩
  rw [← hf] at hc5 hr5 ⊢
  have FE := Lib.hid hf
  clear hf hc4 hB
  simp only [refVal]
  obtain ⟨z0, z1, z2, z3, z4, z5⟩ := B25.all6
  obtain ⟨t0, t1, t2, t3, t4, t5⟩ := B25.thaw6
  go_wp2
  have OUT := does_end (d' := f) HP.out (HP.out ▸ DD.out.own) B25 hc5 hr5 hn5 ht5
  obtain ⟨W9, hW⟩ : ∃ W9, W9 = six w5 (P + 2) (.slice (some ⟨r.gw, 0, none⟩) f.ws.length r.cw) (.slice (some ⟨r.ge, 0, none⟩) f.wear.length r.ce) (.int .i64 f.endure) (.int .i64 f.left) (.int .u32 (U f.pick)) (.bool (!f.up)) := ⟨_, rfl⟩
  have R9 := B25.six (.slice (some ⟨r.gw, 0, none⟩) f.ws.length r.cw) (.slice (some ⟨r.ge, 0, none⟩) f.wear.length r.ce) (.int .i64 f.endure) (.int .i64 f.left) (.int .u32 (U f.pick)) (.bool (!f.up))
  rw [← hW] at R9 OUT
  change bodyPost _ _ _ _ _ (six w5 (P + 2) (.slice (some ⟨r.gw, 0, none⟩) f.ws.length r.cw) (.slice (some ⟨r.ge, 0, none⟩) f.wear.length r.ce) (.int .i64 f.endure) (.int .i64 f.left) (.int .u32 (U f.pick)) (.bool (!f.up)))
  rw [← hW]
  clear hW c0 c1 c2 c3 c4 c5 a0 a1 a2 z0 z1 z2 z3 z4 z5 t0 t1 t2 t3 t4 t5
  obtain ⟨e0, e1, e2, e3, e4, e5⟩ := R9.all6
  rw [← FE.out]
  exact bodyPost_ret (v := .tuple #[.agg #[.slice (some ⟨r.gw, 0, none⟩) f.ws.length r.cw, .slice (some ⟨r.ge, 0, none⟩) f.wear.length r.ce, .int .i64 f.endure, .int .i64 f.left, .int .u32 (U f.pick), .bool (!f.up)], .bool true]) (by simp [results, Try.results14, go_sem, e0, e1, e2, e3, e4, e5]) rfl OUT

set_option maxHeartbeats 2000000 in
theorem does_fuse (w : World) (h : Hd) (r : Rh) (d : ChipM) (k : Nat) (x : ActM) (hc : ChipAt w h d) (hr : RefAt w r d) (n1 : ¬ h.own r.gw) (n2 : ¬ h.own r.ge) (ok : ChipOk k d) (b0 : 0 ≤ x.kind ∧ x.kind ≤ 255) (hk : x.kind % 8 = 5) :
    Calls Try.prog 14 #[.pointer (some ⟨h.p, 0, none⟩), refVal r d, actVal x] w (DoesOut w h r (mFuse d x.at_ x.v)) := by
  have D := does_in w h r d x hc hr n1 n2
  have k3 : (x.kind % 8 == 3) = false := by rw [beq_eq_false_iff_ne]; omega
  have k4 : (x.kind % 8 == 4) = false := by rw [beq_eq_false_iff_ne]; omega
  have k5 : (x.kind % 8 == 5) = true := by rw [beq_iff_eq]; exact hk
  have hw1 : 1 ≤ d.wear.length := by have := ok.wears; have := ok.k1; omega
  have hw2 : 1 ≤ d.ws.length := by have := ok.words; have := ok.k1; omega
  have DD := Lib.hid D
  simp only [refCells, actCells, refZero] at D
  have CH := Lib.hid (fuse_any h d x.at_ x.v _ D.chip hw1)
  clear D hk hc hr
  obtain ⟨P, hP⟩ : ∃ P, P = w.heap.size := ⟨_, rfl⟩
  unfold refVal actVal
  go_enter Try.func14, Try.ntmps14
  go_wp2_with fail
  refine Calls.mono CH.out ?_
  rintro e w4 ⟨rfl, hc4, ht4⟩
  obtain ⟨B0, B1, B2, hr4, htw⟩ := DD.out.keep ht4
  have HP := Lib.hid hP
  rw [← hP] at B0 B1 B2 ⊢
  clear hP
  simp only [refCells, actCells, refZero] at B0 B1 B2
  obtain ⟨c0, c1, c2, c3, c4, c5⟩ := B0.all6
  obtain ⟨a0, a1, a2⟩ := B1.all3
  go_wp2_with fail
  refine (rfuse_any r d x.at_ x.v w4 hw2).mono ?_
  rintro e w5 ⟨rfl, hB⟩
  have B25 := B2.kept (Turned.of_below hB (Nat.le_refl _) NoBlock) (fun h => h)
  have hc5 := hc4.kept (Turned.of_below hB (Nat.le_refl _) NoBlock) (fun _ _ h => h)
  have hr5 : RefAt w5 r (mFuse d x.at_ x.v) := ⟨(hr4.below hB).words, (hr4.below hB).wear, hr4.wl, hr4.el, hr4.wm, hr4.em⟩
  have hn5 : RefNew w r r := RefNew.refl _ _
  have ht5 : Turned h.own w w5 := htw.trans (Turned.of_below hB (Nat.le_refl _) h.own)
  obtain ⟨f, hf⟩ : ∃ f, f = mFuse d x.at_ x.v := ⟨_, rfl⟩
  rw [← hf] at hc5 hr5 ⊢
  have FE := Lib.hid hf
  clear hf hc4 hB
  simp only [refVal]
  obtain ⟨z0, z1, z2, z3, z4, z5⟩ := B25.all6
  obtain ⟨t0, t1, t2, t3, t4, t5⟩ := B25.thaw6
  go_wp2
  have OUT := does_end (d' := f) HP.out (HP.out ▸ DD.out.own) B25 hc5 hr5 hn5 ht5
  obtain ⟨W9, hW⟩ : ∃ W9, W9 = six w5 (P + 2) (.slice (some ⟨r.gw, 0, none⟩) f.ws.length r.cw) (.slice (some ⟨r.ge, 0, none⟩) f.wear.length r.ce) (.int .i64 f.endure) (.int .i64 f.left) (.int .u32 (U f.pick)) (.bool (!f.up)) := ⟨_, rfl⟩
  have R9 := B25.six (.slice (some ⟨r.gw, 0, none⟩) f.ws.length r.cw) (.slice (some ⟨r.ge, 0, none⟩) f.wear.length r.ce) (.int .i64 f.endure) (.int .i64 f.left) (.int .u32 (U f.pick)) (.bool (!f.up))
  rw [← hW] at R9 OUT
  change bodyPost _ _ _ _ _ (six w5 (P + 2) (.slice (some ⟨r.gw, 0, none⟩) f.ws.length r.cw) (.slice (some ⟨r.ge, 0, none⟩) f.wear.length r.ce) (.int .i64 f.endure) (.int .i64 f.left) (.int .u32 (U f.pick)) (.bool (!f.up)))
  rw [← hW]
  clear hW c0 c1 c2 c3 c4 c5 a0 a1 a2 z0 z1 z2 z3 z4 z5 t0 t1 t2 t3 t4 t5
  obtain ⟨e0, e1, e2, e3, e4, e5⟩ := R9.all6
  rw [← FE.out]
  exact bodyPost_ret (v := .tuple #[.agg #[.slice (some ⟨r.gw, 0, none⟩) f.ws.length r.cw, .slice (some ⟨r.ge, 0, none⟩) f.wear.length r.ce, .int .i64 f.endure, .int .i64 f.left, .int .u32 (U f.pick), .bool (!f.up)], .bool true]) (by simp [results, Try.results14, go_sem, e0, e1, e2, e3, e4, e5]) rfl OUT

set_option maxHeartbeats 2000000 in
theorem does_cut (w : World) (h : Hd) (r : Rh) (d : ChipM) (k : Nat) (x : ActM) (hc : ChipAt w h d) (hr : RefAt w r d) (n1 : ¬ h.own r.gw) (n2 : ¬ h.own r.ge) (ok : ChipOk k d) (b0 : 0 ≤ x.kind ∧ x.kind ≤ 255) (hk : x.kind % 8 = 6) :
    Calls Try.prog 14 #[.pointer (some ⟨h.p, 0, none⟩), refVal r d, actVal x] w (DoesOut w h r (mCut d)) := by
  have D := does_in w h r d x hc hr n1 n2
  have k3 : (x.kind % 8 == 3) = false := by rw [beq_eq_false_iff_ne]; omega
  have k4 : (x.kind % 8 == 4) = false := by rw [beq_eq_false_iff_ne]; omega
  have k5 : (x.kind % 8 == 5) = false := by rw [beq_eq_false_iff_ne]; omega
  have k6 : (x.kind % 8 == 6) = true := by rw [beq_iff_eq]; exact hk
  have hw1 : 1 ≤ d.wear.length := by have := ok.wears; have := ok.k1; omega
  have hw2 : 1 ≤ d.ws.length := by have := ok.words; have := ok.k1; omega
  have DD := Lib.hid D
  simp only [refCells, actCells, refZero] at D
  have CH := Lib.hid (cut_any h d _ D.chip hw1)
  clear D hk hc hr
  obtain ⟨P, hP⟩ : ∃ P, P = w.heap.size := ⟨_, rfl⟩
  unfold refVal actVal
  go_enter Try.func14, Try.ntmps14
  go_wp2_with fail
  refine Calls.mono CH.out ?_
  rintro e w5 ⟨rfl, hc4, ht4⟩
  obtain ⟨B0, B1, B2, hr4, htw⟩ := DD.out.keep ht4
  have HP := Lib.hid hP
  rw [← hP] at B0 B1 B2 ⊢
  clear hP
  simp only [refCells, actCells, refZero] at B0 B1 B2
  obtain ⟨c0, c1, c2, c3, c4, c5⟩ := B0.all6
  obtain ⟨a0, a1, a2⟩ := B1.all3
  have f5 := B0.frozen 5
  have hr5 : RefAt (w5.setCell ⟨P, 5, none⟩ (.bool true)) r (mCut d) := by
    have n3 : r.gw ≠ P := hr4.words.ne B0 (by decide)
    have n4 : r.ge ≠ P := hr4.wear.ne B0 (by decide)
    exact ⟨hr4.words.far (p := ⟨P, 5, none⟩) n3 _, hr4.wear.far (p := ⟨P, 5, none⟩) n4 _, hr4.wl, hr4.el, hr4.wm, hr4.em⟩
  have hPP : P = w.heap.size := HP.out
  have B25 := B2.far (p := ⟨P, 5, none⟩) (show P + 2 ≠ P by omega) (.bool true)
  have hc5 : ChipAt (w5.setCell ⟨P, 5, none⟩ (.bool true)) h (mCut d) := hc4.kept ((Turned.refl (Just P) w5).setCell (p := ⟨P, 5, none⟩) (fun _ => rfl) _) (fun i hi e => by have u := DD.out.own i hi; have v : i = P := e; omega)
  have hn5 : RefNew w r r := RefNew.refl _ _
  have ht5 : Turned h.own w (w5.setCell ⟨P, 5, none⟩ (.bool true)) := htw.setCell (p := ⟨P, 5, none⟩) (fun hlt => by have : P < w.heap.size := hlt; omega) _
  clear hPP
  obtain ⟨z0, z1, z2, z3, z4, z5⟩ := B2.all6
  obtain ⟨t0, t1, t2, t3, t4, t5⟩ := B2.thaw6
  go_wp2
  obtain ⟨W9, hW⟩ : ∃ W9, W9 = six (w5.setCell ⟨P, 5, none⟩ (.bool true)) (P + 2) (.slice (some ⟨r.gw, 0, none⟩) d.ws.length r.cw) (.slice (some ⟨r.ge, 0, none⟩) d.wear.length r.ce) (.int .i64 d.endure) (.int .i64 d.left) (.int .u32 (U d.pick)) (.bool true) := ⟨_, rfl⟩
  have OUT : DoesOut w h r (mCut d) (.returned (.tuple #[.agg #[.slice (some ⟨r.gw, 0, none⟩) d.ws.length r.cw, .slice (some ⟨r.ge, 0, none⟩) d.wear.length r.ce, .int .i64 d.endure, .int .i64 d.left, .int .u32 (U d.pick), .bool true], .bool true])) (six (w5.setCell ⟨P, 5, none⟩ (.bool true)) (P + 2) (.slice (some ⟨r.gw, 0, none⟩) d.ws.length r.cw) (.slice (some ⟨r.ge, 0, none⟩) d.wear.length r.ce) (.int .i64 d.endure) (.int .i64 d.left) (.int .u32 (U d.pick)) (.bool true)) := does_end (d' := mCut d) HP.out (HP.out ▸ DD.out.own) B25 hc5 hr5 hn5 ht5
  have R9 := B25.six (.slice (some ⟨r.gw, 0, none⟩) d.ws.length r.cw) (.slice (some ⟨r.ge, 0, none⟩) d.wear.length r.ce) (.int .i64 d.endure) (.int .i64 d.left) (.int .u32 (U d.pick)) (.bool true)
  rw [← hW] at R9 OUT
  change bodyPost _ _ _ _ _ (six (w5.setCell ⟨P, 5, none⟩ (.bool true)) (P + 2) (.slice (some ⟨r.gw, 0, none⟩) d.ws.length r.cw) (.slice (some ⟨r.ge, 0, none⟩) d.wear.length r.ce) (.int .i64 d.endure) (.int .i64 d.left) (.int .u32 (U d.pick)) (.bool true))
  rw [← hW]
  clear hW c0 c1 c2 c3 c4 c5 a0 a1 a2 z0 z1 z2 z3 z4 z5 t0 t1 t2 t3 t4 t5
  obtain ⟨e0, e1, e2, e3, e4, e5⟩ := R9.all6
  exact bodyPost_ret (v := .tuple #[.agg #[.slice (some ⟨r.gw, 0, none⟩) d.ws.length r.cw, .slice (some ⟨r.ge, 0, none⟩) d.wear.length r.ce, .int .i64 d.endure, .int .i64 d.left, .int .u32 (U d.pick), .bool true], .bool true]) (by simp [results, Try.results14, go_sem, e0, e1, e2, e3, e4, e5]) rfl OUT

set_option maxHeartbeats 2000000 in
theorem does_read (w : World) (h : Hd) (r : Rh) (d : ChipM) (k : Nat) (x : ActM) (hc : ChipAt w h d) (hr : RefAt w r d) (n1 : ¬ h.own r.gw) (n2 : ¬ h.own r.ge) (ok : ChipOk k d) (b0 : 0 ≤ x.kind ∧ x.kind ≤ 255) (hk : x.kind % 8 = 4) :
    Calls Try.prog 14 #[.pointer (some ⟨h.p, 0, none⟩), refVal r d, actVal x] w (DoesOut w h r d) := by
  have D := does_in w h r d x hc hr n1 n2
  have k3 : (x.kind % 8 == 3) = false := by rw [beq_eq_false_iff_ne]; omega
  have k4 : (x.kind % 8 == 4) = true := by rw [beq_iff_eq]; exact hk
  have DD := Lib.hid D
  simp only [refCells, actCells, refZero] at D
  have CH := Lib.hid (read_any h d k x.at_ _ D.chip ok)
  obtain ⟨W4, hW4⟩ : ∃ W4, W4 = (((w.alloc (.cells (refCells r d).toArray 30)).alloc (.cells (actCells x).toArray 33)).alloc (.cells refZero.toArray 30)) := ⟨_, rfl⟩
  have DW := DD.out
  rw [← hW4] at DW
  clear D hk hc hr
  obtain ⟨P, hP⟩ : ∃ P, P = w.heap.size := ⟨_, rfl⟩
  have H4 := Lib.hid hW4
  clear hW4
  unfold refVal actVal
  go_enter Try.func14, Try.ntmps14
  go_wp2_with fail
  refine Calls.mono CH.out ?_
  rintro e w4 ⟨rfl, hw⟩
  have hw' : w4 = W4 := by rw [H4.out]; exact hw
  clear hw
  subst hw'
  obtain ⟨B0, B1, B2, hr4, htw⟩ := DW.keep (Turned.refl _ w4)
  have hc4 := DW.chip
  have HP := Lib.hid hP
  rw [← hP] at B0 B1 B2 ⊢
  clear hP
  simp only [refCells, actCells, refZero] at B0 B1 B2
  obtain ⟨c0, c1, c2, c3, c4, c5⟩ := B0.all6
  obtain ⟨a0, a1, a2⟩ := B1.all3
  have RR := Lib.hid (rread_any r d k x.at_ w4 hr4 ok)
  obtain ⟨o1, ho1⟩ : ∃ o1, o1 = (mRead d x.at_).1 := ⟨_, rfl⟩
  obtain ⟨o2, ho2⟩ : ∃ o2, o2 = (mRead d x.at_).2 := ⟨_, rfl⟩
  rw [← ho1, ← ho2] at RR ⊢
  clear ho1 ho2
  go_wp2_with fail
  refine Calls.mono RR.out ?_
  rintro e w5 ⟨rfl, hB⟩
  have B05 := B0.kept (Turned.of_below hB (Nat.le_refl _) NoBlock) (fun h => h)
  have B25 := B2.kept (Turned.of_below hB (Nat.le_refl _) NoBlock) (fun h => h)
  have hc5 := hc4.kept (Turned.of_below hB (Nat.le_refl _) NoBlock) (fun _ _ h => h)
  have hr5 : RefAt w5 r d := hr4.below hB
  have hn5 : RefNew w r r := RefNew.refl _ _
  have ht5 : Turned h.own w w5 := htw.trans (Turned.of_below hB (Nat.le_refl _) h.own)
  clear c0 c1 c2 c3 c4 c5 a0 a1 a2 hB
  obtain ⟨c0, c1, c2, c3, c4, c5⟩ := B05.all6
  obtain ⟨z0, z1, z2, z3, z4, z5⟩ := B25.all6
  obtain ⟨t0, t1, t2, t3, t4, t5⟩ := B25.thaw6
  go_wp2
  have OUT := does_end (d' := d) HP.out (HP.out ▸ DW.own) B25 hc5 hr5 hn5 ht5
  obtain ⟨W9, hW⟩ : ∃ W9, W9 = six w5 (P + 2) (.slice (some ⟨r.gw, 0, none⟩) d.ws.length r.cw) (.slice (some ⟨r.ge, 0, none⟩) d.wear.length r.ce) (.int .i64 d.endure) (.int .i64 d.left) (.int .u32 (U d.pick)) (.bool (!d.up)) := ⟨_, rfl⟩
  have R9 := B25.six (.slice (some ⟨r.gw, 0, none⟩) d.ws.length r.cw) (.slice (some ⟨r.ge, 0, none⟩) d.wear.length r.ce) (.int .i64 d.endure) (.int .i64 d.left) (.int .u32 (U d.pick)) (.bool (!d.up))
  rw [← hW] at R9 OUT
  change bodyPost _ _ _ _ _ (six w5 (P + 2) (.slice (some ⟨r.gw, 0, none⟩) d.ws.length r.cw) (.slice (some ⟨r.ge, 0, none⟩) d.wear.length r.ce) (.int .i64 d.endure) (.int .i64 d.left) (.int .u32 (U d.pick)) (.bool (!d.up)))
  rw [← hW]
  clear hW c0 c1 c2 c3 c4 c5 z0 z1 z2 z3 z4 z5 t0 t1 t2 t3 t4 t5
  obtain ⟨e0, e1, e2, e3, e4, e5⟩ := R9.all6
  exact bodyPost_ret (v := .tuple #[.agg #[.slice (some ⟨r.gw, 0, none⟩) d.ws.length r.cw, .slice (some ⟨r.ge, 0, none⟩) d.wear.length r.ce, .int .i64 d.endure, .int .i64 d.left, .int .u32 (U d.pick), .bool (!d.up)], .bool true]) (by simp [results, Try.results14, go_sem, e0, e1, e2, e3, e4, e5]) rfl OUT
end Go.Proofs.Ytmhkcbdkimnakaa
