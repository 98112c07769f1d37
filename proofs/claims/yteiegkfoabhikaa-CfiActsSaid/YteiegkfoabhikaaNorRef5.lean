/- Contract of the document's own chip, on: Erase. -/
import Derived.Test.YteiegkfoabhikaaNorRef4
import Derived.Test.YteiegkfoabhikaaNor5
import Derived.Deep.RegionWith
import Derived.Deep.DrawnRows
namespace Go.Proofs.Yteiegkfoabhikaa
open Go.RowKit Bm

set_option maxRecDepth 100000 in
set_option maxHeartbeats 1000000 in
theorem rerase_no (r : Rh) (c : ChipM) (k : Nat) (a : Int) (w : World) (hc : RefAt w r c) (ok : ChipOk k c) (hr : mRefuse c a c.wear.length ≠ 0) :
    Calls Try.prog 42 #[refVal r c, .int .i64 a] w (RefOut2 w r c (mRefuse c a c.wear.length)) := by
  have hl := ok.words
  have k1 := ok.k1
  have q : (mRefuse c a c.wear.length == 0) = false := by rw [beq_eq_false_iff_ne]; exact hr
  have q' : (mRefuse c a c.wear.length != 0) = true := by rw [bne_iff_ne]; exact hr
  have WR := Lib.hid fun W => wrong_any r c a c.wear.length W (by omega)
  have HC := Lib.hid hc
  have A1 := At.news w 32 (refCells r c)
  have A2 := At.news (w.alloc (.cells (refCells r c).toArray 32)) 32 refZero
  have A3 := A1.alloc (.cells refZero.toArray 32)
  have B2 := below_two w (.cells (refCells r c).toArray 32) (.cells refZero.toArray 32)
  have hs1 : (w.alloc (.cells (refCells r c).toArray 32)).heap.size = w.heap.size + 1 := by rw [World.size_alloc]
  rw [hs1] at A2
  simp only [refCells, refZero] at A2 A3 B2
  clear A1 hc hl hs1 hr
  obtain ⟨P, hP⟩ : ∃ P, P = w.heap.size := ⟨_, rfl⟩
  unfold refVal
  go_enter Try.func42, Try.ntmps42
  go_wp2_with fail
  refine (WR.out _).mono ?_
  rintro e w3 ⟨rfl, hB⟩
  have hB3 : Below w.heap.size w w3 := B2.trans (hB.mono B2.size)
  have A2' := A2.kept (Turned.of_below hB (Nat.le_refl _) NoBlock) (fun h => h)
  have A3' := A3.kept (Turned.of_below hB (Nat.le_refl _) NoBlock) (fun h => h)
  have E := Lib.hid hP
  rw [← hP] at A2' A3' ⊢
  clear hP A2 A3 B2 hB
  obtain ⟨c0, c1, c2, c3, c4, c5⟩ := A3'.all6
  obtain ⟨d0, d1, d2, d3, d4, d5⟩ := A2'.all6
  obtain ⟨h0, h1, h2, h3, h4, h5⟩ := A2'.thaw6
  go_wp2
  obtain ⟨W9, hW⟩ : ∃ W9, W9 = six w3 (P + 1) (.slice (some ⟨r.gw, 0, none⟩) c.ws.length r.cw) (.slice (some ⟨r.ge, 0, none⟩) c.wear.length r.ce) (.int .i64 c.endure) (.int .i64 c.left) (.int .u32 (U c.pick)) (.bool (!c.up)) := ⟨_, rfl⟩
  have R9 := A2'.six (.slice (some ⟨r.gw, 0, none⟩) c.ws.length r.cw) (.slice (some ⟨r.ge, 0, none⟩) c.wear.length r.ce) (.int .i64 c.endure) (.int .i64 c.left) (.int .u32 (U c.pick)) (.bool (!c.up))
  have T9 := (Turned.refl (fun b => b = P + 1) w3).six (P := P + 1) (fun _ => rfl) (.slice (some ⟨r.gw, 0, none⟩) c.ws.length r.cw) (.slice (some ⟨r.ge, 0, none⟩) c.wear.length r.ce) (.int .i64 c.endure) (.int .i64 c.left) (.int .u32 (U c.pick)) (.bool (!c.up))
  rw [← hW] at R9 T9
  change bodyPost _ _ _ _ _ (six w3 (P + 1) (.slice (some ⟨r.gw, 0, none⟩) c.ws.length r.cw) (.slice (some ⟨r.ge, 0, none⟩) c.wear.length r.ce) (.int .i64 c.endure) (.int .i64 c.left) (.int .u32 (U c.pick)) (.bool (!c.up)))
  rw [← hW]
  clear hW c0 c1 c2 c3 c4 c5 d0 d1 d2 d3 d4 d5 h0 h1 h2 h3 h4 h5
  obtain ⟨e0, e1, e2, e3, e4, e5⟩ := R9.all6
  refine bodyPost_ret (v := .tuple #[.agg #[.slice (some ⟨r.gw, 0, none⟩) c.ws.length r.cw, .slice (some ⟨r.ge, 0, none⟩) c.wear.length r.ce, .int .i64 c.endure, .int .i64 c.left, .int .u32 (U c.pick), .bool (!c.up)], .int .i64 (mRefuse c a c.wear.length)]) (by simp [results, Try.results42, go_sem, e0, e1, e2, e3, e4, e5]) rfl ?_
  have hP := E.out
  have h0 := HC.out
  have hw3 := hB3.size
  have g1 : r.ge < w.heap.size := h0.wear.lt
  have g2 : r.gw < w.heap.size := h0.words.lt
  exact ⟨r, rfl, (h0.below hB3).kept T9 (by show ¬ (r.gw = P + 1); omega) (by show ¬ (r.ge = P + 1); omega), hB3.trans (T9.below (by intro b hb; omega) hw3), RefNew.refl _ _⟩

set_option maxRecDepth 100000 in
set_option maxHeartbeats 1000000 in
theorem rerase_worn (r : Rh) (c : ChipM) (k : Nat) (b : Nat) (w : World) (hc : RefAt w r c) (ok : ChipOk k c) (hb : b < c.wear.length) (hr : mRefuse c b c.wear.length = 0) (hw : c.endure ≤ nm c.wear b) :
    Calls Try.prog 42 #[refVal r c, .int .i64 b] w (RefOut2 w r c 5) := by
  have hl := ok.words
  have k1 := ok.k1
  have kw := ok.wears
  have k2 := ok.k2
  have ele := hc.ele
  have em := hc.em
  unfold maxLen at em
  have i0 : (0 : Int) ≤ (b : Int) := by omega
  have i1 : (b : Int) < (c.wear.length : Int) := by omega
  have hd : decide (c.endure ≤ nm c.wear b) = true := by rw [decide_eq_true_iff]; exact hw
  have WR := Lib.hid fun W => wrong_any r c b c.wear.length W (by omega)
  have HC := Lib.hid hc
  have A1 := At.news w 32 (refCells r c)
  have A2 := At.news (w.alloc (.cells (refCells r c).toArray 32)) 32 refZero
  have A3 := A1.alloc (.cells refZero.toArray 32)
  have B2 := below_two w (.cells (refCells r c).toArray 32) (.cells refZero.toArray 32)
  have hs1 : (w.alloc (.cells (refCells r c).toArray 32)).heap.size = w.heap.size + 1 := by rw [World.size_alloc]
  rw [hs1] at A2
  simp only [refCells, refZero] at A2 A3 B2
  clear A1 hc hl hs1 kw
  obtain ⟨P, hP⟩ : ∃ P, P = w.heap.size := ⟨_, rfl⟩
  unfold refVal
  go_enter Try.func42, Try.ntmps42
  go_wp2_with fail
  refine (WR.out _).mono ?_
  rintro e w3 ⟨rfl, hB⟩
  rw [hr]
  have hB3 : Below w.heap.size w w3 := B2.trans (hB.mono B2.size)
  have A2' := A2.kept (Turned.of_below hB (Nat.le_refl _) NoBlock) (fun h => h)
  have A3' := A3.kept (Turned.of_below hB (Nat.le_refl _) NoBlock) (fun h => h)
  have E := Lib.hid hP
  rw [← hP] at A2' A3' ⊢
  clear hP A2 A3 B2 hB
  obtain ⟨c0, c1, c2, c3, c4, c5⟩ := A3'.all6
  obtain ⟨d0, d1, d2, d3, d4, d5⟩ := A2'.all6
  obtain ⟨h0, h1, h2, h3, h4, h5⟩ := A2'.thaw6
  have gb := ((HC.out).below hB3).worn b hb
  clear hr
  go_wp2
  go_quiet (fail)
  go_wp2
  have A2q := A2'.drewN nq
  have hBq : Below w.heap.size w (w3.drewN nq) := hB3.trans ((turned_drewN (S := NoBlock) w3 nq).below (fun _ h => h.elim) hB3.size)
  clear c0 c1 c2 c3 c4 c5 d0 d1 d2 d3 d4 d5 h0 h1 h2 h3 h4 h5 gb A3' A2' hB3
  generalize w3.drewN nq = w4 at A2q hBq ⊢
  obtain ⟨W9, hW⟩ : ∃ W9, W9 = six w4 (P + 1) (.slice (some ⟨r.gw, 0, none⟩) c.ws.length r.cw) (.slice (some ⟨r.ge, 0, none⟩) c.wear.length r.ce) (.int .i64 c.endure) (.int .i64 c.left) (.int .u32 (U c.pick)) (.bool (!c.up)) := ⟨_, rfl⟩
  have R9 := A2q.six (.slice (some ⟨r.gw, 0, none⟩) c.ws.length r.cw) (.slice (some ⟨r.ge, 0, none⟩) c.wear.length r.ce) (.int .i64 c.endure) (.int .i64 c.left) (.int .u32 (U c.pick)) (.bool (!c.up))
  have T9 := (Turned.refl (fun b => b = P + 1) w4).six (P := P + 1) (fun _ => rfl) (.slice (some ⟨r.gw, 0, none⟩) c.ws.length r.cw) (.slice (some ⟨r.ge, 0, none⟩) c.wear.length r.ce) (.int .i64 c.endure) (.int .i64 c.left) (.int .u32 (U c.pick)) (.bool (!c.up))
  rw [← hW] at R9 T9
  change bodyPost _ _ _ _ _ (six w4 (P + 1) (.slice (some ⟨r.gw, 0, none⟩) c.ws.length r.cw) (.slice (some ⟨r.ge, 0, none⟩) c.wear.length r.ce) (.int .i64 c.endure) (.int .i64 c.left) (.int .u32 (U c.pick)) (.bool (!c.up)))
  rw [← hW]
  clear hW
  obtain ⟨e0, e1, e2, e3, e4, e5⟩ := R9.all6
  refine bodyPost_ret (v := .tuple #[.agg #[.slice (some ⟨r.gw, 0, none⟩) c.ws.length r.cw, .slice (some ⟨r.ge, 0, none⟩) c.wear.length r.ce, .int .i64 c.endure, .int .i64 c.left, .int .u32 (U c.pick), .bool (!c.up)], .int .i64 5]) (by simp [results, Try.results42, go_sem, e0, e1, e2, e3, e4, e5]) rfl ?_
  have hP := E.out
  have h0 := HC.out
  have hw3 := hBq.size
  have g1 : r.ge < w.heap.size := h0.wear.lt
  have g2 : r.gw < w.heap.size := h0.words.lt
  exact ⟨r, rfl, (h0.below hBq).kept T9 (by show ¬ (r.gw = P + 1); omega) (by show ¬ (r.ge = P + 1); omega), hBq.trans (T9.below (by intro b hb; omega) hw3), RefNew.refl _ _⟩


end Go.Proofs.Yteiegkfoabhikaa
