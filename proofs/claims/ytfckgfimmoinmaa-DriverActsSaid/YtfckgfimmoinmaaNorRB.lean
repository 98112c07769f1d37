/- Contract of the document's own chip, on: Erase. | Contract of the document's own chip, on: an erasure that is done. -/
import Derived.Test.YtfckgfimmoinmaaNorRA
import Derived.Test.YtfckgfimmoinmaaNorB
import Derived.Deep.RegionWith
import Derived.Deep.DrawnRows
namespace Go.Proofs.Ytfckgfimmoinmaa
open Go.RowKit Bm

set_option maxRecDepth 100000 in
set_option maxHeartbeats 1000000 in
theorem rerase_no (r : Rh) (c : ChipM) (k : Nat) (a : Int) (w : World) (hc : RefAt w r c) (ok : ChipOk k c) (hr : mRefuse c a c.wear.length ≠ 0) :
    Calls Try.prog 71 #[refVal r c, .int .i64 a] w (RefOut2 w r c (mRefuse c a c.wear.length)) := by
  have hl := ok.words
  have k1 := ok.k1
  have q : (mRefuse c a c.wear.length == 0) = false := by rw [beq_eq_false_iff_ne]; exact hr
  have q' : (mRefuse c a c.wear.length != 0) = true := by rw [bne_iff_ne]; exact hr
  have WR := Lib.hid fun W => wrong_any r c a c.wear.length W (by omega)
  have HC := Lib.hid hc
  have A1 := At.news w 35 (refCells r c)
  have A2 := At.news (w.alloc (.cells (refCells r c).toArray 35)) 35 refZero
  have A3 := A1.alloc (.cells refZero.toArray 35)
  have B2 := below_two w (.cells (refCells r c).toArray 35) (.cells refZero.toArray 35)
  have hs1 : (w.alloc (.cells (refCells r c).toArray 35)).heap.size = w.heap.size + 1 := by rw [World.size_alloc]
  rw [hs1] at A2
  simp only [refCells, refZero] at A2 A3 B2
  clear A1 hc hl hs1 hr
  obtain ⟨P, hP⟩ : ∃ P, P = w.heap.size := ⟨_, rfl⟩
  unfold refVal
  go_enter Try.func71, Try.ntmps71
  go_wp2_with fail
  refine (WR.out _).mono ?_
  rintro e w3 ⟨rfl, hB⟩
  have hB3 : Below w.heap.size w w3 := B2.trans (hB.mono B2.size)
  have A2' := A2.kept (Turned.of_below hB (Nat.le_refl _) NoBlock) (fun h => h)
  have A3' := A3.kept (Turned.of_below hB (Nat.le_refl _) NoBlock) (fun h => h)
  have E := Lib.hid hP
  rw [← hP] at A2' A3' ⊢
  clear hP A2 A3 B2 hB
  obtain ⟨c0, c1, c2, c3, c4, c5⟩ := A3'.all6
  obtain ⟨d0, d1, d2, d3, d4, d5⟩ := A2'.all6
  obtain ⟨h0, h1, h2, h3, h4, h5⟩ := A2'.thaw6
  go_wp2
  obtain ⟨W9, hW⟩ : ∃ W9, W9 = six w3 (P + 1) (.slice (some ⟨r.gw, 0, none⟩) c.ws.length r.cw) (.slice (some ⟨r.ge, 0, none⟩) c.wear.length r.ce) (.int .i64 c.endure) (.int .i64 c.left) (.int .u32 (U c.pick)) (.bool (!c.up)) := ⟨_, rfl⟩
  have R9 := A2'.six (.slice (some ⟨r.gw, 0, none⟩) c.ws.length r.cw) (.slice (some ⟨r.ge, 0, none⟩) c.wear.length r.ce) (.int .i64 c.endure) (.int .i64 c.left) (.int .u32 (U c.pick)) (.bool (!c.up))
  have T9 := (Turned.refl (fun b => b = P + 1) w3).six (P := P + 1) (fun _ => rfl) (.slice (some ⟨r.gw, 0, none⟩) c.ws.length r.cw) (.slice (some ⟨r.ge, 0, none⟩) c.wear.length r.ce) (.int .i64 c.endure) (.int .i64 c.left) (.int .u32 (U c.pick)) (.bool (!c.up))
  rw [← hW] at R9 T9
  change bodyPost _ _ _ _ _ (six w3 (P + 1) (.slice (some ⟨r.gw, 0, none⟩) c.ws.length r.cw) (.slice (some ⟨r.ge, 0, none⟩) c.wear.length r.ce) (.int .i64 c.endure) (.int .i64 c.left) (.int .u32 (U c.pick)) (.bool (!c.up)))
  rw [← hW]
  clear hW c0 c1 c2 c3 c4 c5 d0 d1 d2 d3 d4 d5 h0 h1 h2 h3 h4 h5
  obtain ⟨e0, e1, e2, e3, e4, e5⟩ := R9.all6
  refine bodyPost_ret (v := .tuple #[.agg #[.slice (some ⟨r.gw, 0, none⟩) c.ws.length r.cw, .slice (some ⟨r.ge, 0, none⟩) c.wear.length r.ce, .int .i64 c.endure, .int .i64 c.left, .int .u32 (U c.pick), .bool (!c.up)], .int .i64 (mRefuse c a c.wear.length)]) (by simp [results, Try.results71, go_sem, e0, e1, e2, e3, e4, e5]) rfl ?_
  have hP := E.out
  have h0 := HC.out
  have hw3 := hB3.size
  have g1 : r.ge < w.heap.size := h0.wear.lt
  have g2 : r.gw < w.heap.size := h0.words.lt
  exact ⟨r, rfl, (h0.below hB3).kept T9 (by show ¬ (r.gw = P + 1); omega) (by show ¬ (r.ge = P + 1); omega), hB3.trans (T9.below (by intro b hb; omega) hw3), RefNew.refl _ _⟩

set_option maxRecDepth 100000 in
set_option maxHeartbeats 1000000 in
theorem rerase_worn (r : Rh) (c : ChipM) (k : Nat) (b : Nat) (w : World) (hc : RefAt w r c) (ok : ChipOk k c) (hb : b < c.wear.length) (hr : mRefuse c b c.wear.length = 0) (hw : c.endure ≤ nm c.wear b) :
    Calls Try.prog 71 #[refVal r c, .int .i64 b] w (RefOut2 w r c 5) := by
  have hl := ok.words
  have k1 := ok.k1
  have kw := ok.wears
  have k2 := ok.k2
  have ele := hc.ele
  have em := hc.em
  unfold maxLen at em
  have i0 : (0 : Int) ≤ (b : Int) := by omega
  have i1 : (b : Int) < (c.wear.length : Int) := by omega
  have hd : decide (c.endure ≤ nm c.wear b) = true := by rw [decide_eq_true_iff]; exact hw
  have WR := Lib.hid fun W => wrong_any r c b c.wear.length W (by omega)
  have HC := Lib.hid hc
  have A1 := At.news w 35 (refCells r c)
  have A2 := At.news (w.alloc (.cells (refCells r c).toArray 35)) 35 refZero
  have A3 := A1.alloc (.cells refZero.toArray 35)
  have B2 := below_two w (.cells (refCells r c).toArray 35) (.cells refZero.toArray 35)
  have hs1 : (w.alloc (.cells (refCells r c).toArray 35)).heap.size = w.heap.size + 1 := by rw [World.size_alloc]
  rw [hs1] at A2
  simp only [refCells, refZero] at A2 A3 B2
  clear A1 hc hl hs1 kw
  obtain ⟨P, hP⟩ : ∃ P, P = w.heap.size := ⟨_, rfl⟩
  unfold refVal
  go_enter Try.func71, Try.ntmps71
  go_wp2_with fail
  refine (WR.out _).mono ?_
  rintro e w3 ⟨rfl, hB⟩
  rw [hr]
  have hB3 : Below w.heap.size w w3 := B2.trans (hB.mono B2.size)
  have A2' := A2.kept (Turned.of_below hB (Nat.le_refl _) NoBlock) (fun h => h)
  have A3' := A3.kept (Turned.of_below hB (Nat.le_refl _) NoBlock) (fun h => h)
  have E := Lib.hid hP
  rw [← hP] at A2' A3' ⊢
  clear hP A2 A3 B2 hB
  obtain ⟨c0, c1, c2, c3, c4, c5⟩ := A3'.all6
  obtain ⟨d0, d1, d2, d3, d4, d5⟩ := A2'.all6
  obtain ⟨h0, h1, h2, h3, h4, h5⟩ := A2'.thaw6
  have gb := ((HC.out).below hB3).worn b hb
  clear hr
  go_wp2
  go_quiet (fail)
  go_wp2
  have A2q := A2'.drewN nq
  have hBq : Below w.heap.size w (w3.drewN nq) := hB3.trans ((turned_drewN (S := NoBlock) w3 nq).below (fun _ h => h.elim) hB3.size)
  clear c0 c1 c2 c3 c4 c5 d0 d1 d2 d3 d4 d5 h0 h1 h2 h3 h4 h5 gb A3' A2' hB3
  generalize w3.drewN nq = w4 at A2q hBq ⊢
  obtain ⟨W9, hW⟩ : ∃ W9, W9 = six w4 (P + 1) (.slice (some ⟨r.gw, 0, none⟩) c.ws.length r.cw) (.slice (some ⟨r.ge, 0, none⟩) c.wear.length r.ce) (.int .i64 c.endure) (.int .i64 c.left) (.int .u32 (U c.pick)) (.bool (!c.up)) := ⟨_, rfl⟩
  have R9 := A2q.six (.slice (some ⟨r.gw, 0, none⟩) c.ws.length r.cw) (.slice (some ⟨r.ge, 0, none⟩) c.wear.length r.ce) (.int .i64 c.endure) (.int .i64 c.left) (.int .u32 (U c.pick)) (.bool (!c.up))
  have T9 := (Turned.refl (fun b => b = P + 1) w4).six (P := P + 1) (fun _ => rfl) (.slice (some ⟨r.gw, 0, none⟩) c.ws.length r.cw) (.slice (some ⟨r.ge, 0, none⟩) c.wear.length r.ce) (.int .i64 c.endure) (.int .i64 c.left) (.int .u32 (U c.pick)) (.bool (!c.up))
  rw [← hW] at R9 T9
  change bodyPost _ _ _ _ _ (six w4 (P + 1) (.slice (some ⟨r.gw, 0, none⟩) c.ws.length r.cw) (.slice (some ⟨r.ge, 0, none⟩) c.wear.length r.ce) (.int .i64 c.endure) (.int .i64 c.left) (.int .u32 (U c.pick)) (.bool (!c.up)))
  rw [← hW]
  clear hW
  obtain ⟨e0, e1, e2, e3, e4, e5⟩ := R9.all6
  refine bodyPost_ret (v := .tuple #[.agg #[.slice (some ⟨r.gw, 0, none⟩) c.ws.length r.cw, .slice (some ⟨r.ge, 0, none⟩) c.wear.length r.ce, .int .i64 c.endure, .int .i64 c.left, .int .u32 (U c.pick), .bool (!c.up)], .int .i64 5]) (by simp [results, Try.results71, go_sem, e0, e1, e2, e3, e4, e5]) rfl ?_
  have hP := E.out
  have h0 := HC.out
  have hw3 := hBq.size
  have g1 : r.ge < w.heap.size := h0.wear.lt
  have g2 : r.gw < w.heap.size := h0.words.lt
  exact ⟨r, rfl, (h0.below hBq).kept T9 (by show ¬ (r.gw = P + 1); omega) (by show ¬ (r.ge = P + 1); omega), hBq.trans (T9.below (by intro b hb; omega) hw3), RefNew.refl _ _⟩


end Go.Proofs.Ytfckgfimmoinmaa

namespace Go.Proofs.Ytfckgfimmoinmaa
open Go.RowKit Bm
attribute [local go_sem ↓] Go.wp_at_zero Go.wp_at_succ

/-- In the midst of the document's erasure: n words are done. -/
def dEr (c : ChipM) (b n : Nat) : ChipM := { mChange c with ws := eraseTo c.ws b n (mPick c) }
theorem dEr_zero (c : ChipM) (b : Nat) : dEr c b 0 = mChange c := by
  unfold dEr
  rw [eraseTo_zero, ← mChange_ws c]
theorem dEr_len (c : ChipM) (b n : Nat) : (dEr c b n).ws.length = c.ws.length := eraseTo_length _ _ _ _
theorem dEr_wear (c : ChipM) (b n : Nat) : (dEr c b n).wear = c.wear := mChange_wear c
theorem dEr_pick (c : ChipM) (b n : Nat) : (dEr c b n).pick = c.pick := mChange_pick c
theorem dEr_ok {k : Nat} {c : ChipM} (ok : ChipOk k c) (b n : Nat) : ChipOk k (dEr c b n) := by
  have g := ok.change
  exact ⟨g.k1, g.k2, by rw [dEr_len]; exact ok.words, g.wears, g.e0, g.e1, g.l0, g.l1, g.w0, g.w1⟩
theorem dEr_step (c : ChipM) (b n : Nat) (h : b * 64 + n < c.ws.length) :
    mSet (dEr c b n) (b * 64 + n) (if mBurn c then partB (wd (dEr c b n).ws (b * 64 + n)) ones (turnB (dEr c b n).pick (n : Int)) else ones) = dEr c b (n + 1) := by
  have e : wd (dEr c b n).ws (b * 64 + n) = wd c.ws (b * 64 + n) := by
    show wd (eraseTo c.ws b n (mPick c)) (b * 64 + n) = _
    rw [eraseTo_get _ _ _ _ _ h, if_neg (by omega)]
  have e2 : (if mBurn c = true then partB (wd (dEr c b n).ws (b * 64 + n)) ones (turnB (dEr c b n).pick (n : Int)) else ones) = partB (wd c.ws (b * 64 + n)) ones (turnB (mPick c) (n : Int)) := by
    rw [e, dEr_pick]
    unfold mBurn mPick
    by_cases hl : c.left = 1
    · simp [hl]
    · rw [if_neg hl, turnB_ones, partB_ones]
      simp [hl]
  rw [e2]
  unfold mSet dEr
  simp only
  rw [eraseTo_step]
theorem dEr_end (c : ChipM) (b : Nat) : { dEr c b 64 with wear := c.wear.set b (nm c.wear b + 1) } = mEraseDo c b := rfl

theorem end_burn (c : ChipM) (w : World) : Calls Try.prog 85 #[.bool (mBurn c)] w fun e w' => e = .returned (.int .i64 (mErr c)) ∧ w' = w := by
  rw [mErr_burn]
  exact end_any (mBurn c) w

set_option maxRecDepth 100000 in
set_option maxHeartbeats 4000000 in
theorem rerase_yes (r : Rh) (c : ChipM) (k : Nat) (b : Nat) (w : World) (hc : RefAt w r c) (ok : ChipOk k c) (hb : b < c.wear.length) (hr : mRefuse c b c.wear.length = 0) (hw : nm c.wear b < c.endure) :
    Calls Try.prog 71 #[refVal r c, .int .i64 b] w (RefOut2 w r (mEraseDo c b) (mErr c)) := by
  have hl := ok.words
  have k1 := ok.k1
  have kw := ok.wears
  have k2 := ok.k2
  have hu := Lib.hid (refuse_zero hr).1
  have l0 := ok.l0
  have l1 := ok.l1
  have e0' := ok.w0 b
  have e1' := ok.e1
  have ele := hc.ele
  have em := hc.em
  unfold maxLen at em
  have i0 : (0 : Int) ≤ (b : Int) := by omega
  have i1 : (b : Int) < (c.wear.length : Int) := by omega
  have i2 : c.wear.length ≤ 64 := by omega
  have i3 : b * 64 + 64 ≤ c.ws.length := by omega
  have hd : decide (c.endure ≤ nm c.wear b) = false := by rw [decide_eq_false_iff_not]; omega
  have WR := Lib.hid fun W => wrong_any r c b c.wear.length W (by omega)
  have HC := Lib.hid hc
  have A1 := At.news w 35 (refCells r c)
  have A2 := At.news (w.alloc (.cells (refCells r c).toArray 35)) 35 refZero
  have A3 := A1.alloc (.cells refZero.toArray 35)
  have B2 := below_two w (.cells (refCells r c).toArray 35) (.cells refZero.toArray 35)
  have hs1 : (w.alloc (.cells (refCells r c).toArray 35)).heap.size = w.heap.size + 1 := by rw [World.size_alloc]
  rw [hs1] at A2
  simp only [refCells, refZero] at A2 A3 B2
  clear A1 hc hl hs1 kw
  obtain ⟨P, hP⟩ : ∃ P, P = w.heap.size := ⟨_, rfl⟩
  unfold refVal
  go_enter Try.func71, Try.ntmps71
  go_wp2_with fail
  refine (WR.out _).mono ?_
  rintro e w3 ⟨rfl, hB⟩
  rw [hr]
  have hB3 : Below w.heap.size w w3 := B2.trans (hB.mono B2.size)
  have A2' := A2.kept (Turned.of_below hB (Nat.le_refl _) NoBlock) (fun h => h)
  have A3' := A3.kept (Turned.of_below hB (Nat.le_refl _) NoBlock) (fun h => h)
  have E := Lib.hid hP
  rw [← hP] at A2' A3' ⊢
  clear hP A2 A3 B2 hB
  obtain ⟨c0, c1, c2, c3, c4, c5⟩ := A3'.all6
  have gb := ((HC.out).below hB3).worn b hb
  clear hr
  go_wp2
  go_quiet (fail)
  go_wp2_with fail
  have A2q := A2'.drewN nq
  have A3q := A3'.drewN nq
  have hBq : Below w.heap.size w (w3.drewN nq) := hB3.trans ((turned_drewN (S := NoBlock) w3 nq).below (fun _ h => h.elim) hB3.size)
  clear c0 c1 c2 c3 c4 c5 gb A3' A2' hB3
  generalize w3.drewN nq = w4 at A2q A3q hBq ⊢
  refine (burnt_any r c w4 hu.out l0 l1).mono ?_
  rintro e w5 ⟨rfl, hB⟩
  have hB5 : Below w.heap.size w w5 := hBq.trans (hB.mono hBq.size)
  have A25 := A2q.kept (Turned.of_below hB (Nat.le_refl _) NoBlock) (fun h => h)
  have A35 := A3q.kept (Turned.of_below hB (Nat.le_refl _) NoBlock) (fun h => h)
  clear hB hBq A2q A3q
  obtain ⟨c0, c1, c2, c3, c4, c5⟩ := A35.all6
  obtain ⟨f0, f1, f2, f3, f4, f5⟩ := A35.thaw6
  obtain ⟨d, hdd⟩ : ∃ d, d = mChange c := ⟨_, rfl⟩
  simp only [refVal]
  rw [← hdd]
  have D := Lib.hid hdd
  clear hdd
  go_wp2
  obtain ⟨W5, hW⟩ : ∃ W5, W5 = six w5 P (.slice (some ⟨r.gw, 0, none⟩) d.ws.length r.cw) (.slice (some ⟨r.ge, 0, none⟩) d.wear.length r.ce) (.int .i64 d.endure) (.int .i64 d.left) (.int .u32 (U d.pick)) (.bool (!d.up)) := ⟨_, rfl⟩
  have R5 := A35.six (.slice (some ⟨r.gw, 0, none⟩) d.ws.length r.cw) (.slice (some ⟨r.ge, 0, none⟩) d.wear.length r.ce) (.int .i64 d.endure) (.int .i64 d.left) (.int .u32 (U d.pick)) (.bool (!d.up))
  have T5 := (Turned.refl (Just P) w5).six (P := P) (fun _ => rfl) (.slice (some ⟨r.gw, 0, none⟩) d.ws.length r.cw) (.slice (some ⟨r.ge, 0, none⟩) d.wear.length r.ce) (.int .i64 d.endure) (.int .i64 d.left) (.int .u32 (U d.pick)) (.bool (!d.up))
  rw [← hW] at R5 T5
  change Code.wp _ _ _ _ (six w5 P (.slice (some ⟨r.gw, 0, none⟩) d.ws.length r.cw) (.slice (some ⟨r.ge, 0, none⟩) d.wear.length r.ce) (.int .i64 d.endure) (.int .i64 d.left) (.int .u32 (U d.pick)) (.bool (!d.up)))
  rw [← hW]
  have hPw : P = w.heap.size := E.out
  have A26 := A25.kept T5 (show ¬ (P + 1 = P) by omega)
  have hc5 : RefAt W5 r d := by
    have h0 := ((HC.out).below hB5).change
    rw [← D.out] at h0
    have g1 : r.ge < w.heap.size := HC.out.wear.lt
    have g2 : r.gw < w.heap.size := HC.out.words.lt
    exact h0.kept T5 (show ¬ (r.gw = P) by omega) (show ¬ (r.ge = P) by omega)
  have hB6 : Below w.heap.size w W5 := hB5.trans (T5.below (fun b hb => by have : b = P := hb; omega) hB5.size)
  have start : ∃ r', At W5 P 35 (refCells r' (dEr c b 0)) ∧ RefAt W5 r' (dEr c b 0) ∧ RefNew w r r' := ⟨r, by rw [dEr_zero, ← D.out]; exact R5, by rw [dEr_zero, ← D.out]; exact hc5, RefNew.refl _ _⟩
  clear hW c0 c1 c2 c3 c4 c5 f0 f1 f2 f3 f4 f5 A25 A35 T5 hB5 R5 hc5 hPw
  have ON : (4294967295 : Int) = U ones := rfl
  have ONE := Lib.hid ON
  clear ON
  go_loopw [8] (fun j wr => ∃ q : Nat, ∃ r', q ≤ 64 ∧ j = .int .i64 q ∧ At wr P 35 (refCells r' (dEr c b q)) ∧ At wr (P + 1) 35 refZero ∧ RefAt wr r' (dEr c b q) ∧ RefNew w r r' ∧ Below w.heap.size w wr) (fun j _ => 64 - (intOf j).toNat)
  case atStart =>
    obtain ⟨r', h1, h2, h3⟩ := start
    exact ⟨0, r', by omega, rfl, h1, A26, h2, h3, hB6⟩
  case round =>
    clear start A26 hB6
    obtain ⟨q, r', hq, rfl, hAP, hAQ, hcr, hnr, hB⟩ := hrel
    by_cases hlt : q < 64
    · simp only [refCells] at hAP
      obtain ⟨c0, c1, c2, c3, c4, c5⟩ := hAP.all6
      obtain ⟨f0, f1, f2, f3, f4, f5⟩ := hAP.thaw6
      have OKq := Lib.hid (dEr_ok ok b q)
      have STq := Lib.hid (dEr_step c b q (by omega))
      have LEN := Lib.hid (dEr_len c b q)
      obtain ⟨f, hf⟩ : ∃ f, f = dEr c b q := ⟨_, rfl⟩
      rw [← hf] at c0 c1 c2 c3 c4 c5 hcr hAP
      have F := Lib.hid hf
      clear hf
      go_wp2
      refine wp_region_still_tail 10 (by kernel_rfl) (by decide +kernel) ?_
      simp only [List.take_succ_cons, List.take_zero, List.drop_succ_cons, List.drop_zero]
      change wpStill _ _ (World.drew _) _ _ _
      repeat still_step
      still_call (rturn_any _ _ _)
      repeat still_step
      refine wpStill_nil ?_
      change wpList _ _ _ _ _ (World.drew _)
      have CH := change_any' r' f k (b * 64 + q) ones (turnB f.pick (q : Int)) (mBurn c) wr.drew (hcr.kept (Turned.refl NoBlock wr).drew (fun h => h) (fun h => h)) (by rw [F.out]; exact OKq.out) (by rw [F.out, LEN.out]; omega)
      rw [show (((b * 64 + q : Nat)) : Int) = (b : Int) * 64 + (q : Int) by omega, ← ONE.out] at CH
      have CHH := Lib.hid CH
      clear CH
      go_wp2_with fail
      refine Calls.mono CHH.out ?_
      rintro e w6 ⟨r2, rfl, hc6, hB6, hn6⟩
      have hm : mSet f (b * 64 + q) (if mBurn c = true then partB (wd f.ws (b * 64 + q)) ones (turnB f.pick (q : Int)) else ones) = dEr c b (q + 1) := by
        rw [F.out]; exact STq.out
      rw [hm] at hc6 ⊢
      clear hm CHH c0 c1 c2 c3 c4 c5 f0 f1 f2 f3 f4 f5
      have hB6' : Below wr.heap.size wr w6 := ((Below.refl _ wr).drew).trans hB6
      have hAP6 := hAP.kept (Turned.of_below hB6' (Nat.le_refl _) NoBlock) (fun h => h)
      have hAQ6 := hAQ.kept (Turned.of_below hB6' (Nat.le_refl _) NoBlock) (fun h => h)
      have hsz : P + 1 < wr.heap.size := hAQ.lt
      have hBw6 : Below w.heap.size w w6 := hB.trans (hB6'.mono hB.size)
      clear hB6 hB6' hAP hAQ hcr
      obtain ⟨c0, c1, c2, c3, c4, c5⟩ := hAP6.all6
      obtain ⟨f0, f1, f2, f3, f4, f5⟩ := hAP6.thaw6
      obtain ⟨m, hm⟩ : ∃ m, m = dEr c b (q + 1) := ⟨_, rfl⟩
      simp only [refVal]
      rw [← hm] at hc6 ⊢
      have M := Lib.hid hm
      clear hm
      go_wp2
      have R9 : At (six w6 P (.slice (some ⟨r2.gw, 0, none⟩) m.ws.length r2.cw) (.slice (some ⟨r2.ge, 0, none⟩) m.wear.length r2.ce) (.int .i64 m.endure) (.int .i64 m.left) (.int .u32 (U m.pick)) (.bool (!m.up))) P 35 (refCells r2 m) := hAP6.six _ _ _ _ _ _
      have T9 := (Turned.refl (Just P) w6).six (P := P) (fun _ => rfl) (.slice (some ⟨r2.gw, 0, none⟩) m.ws.length r2.cw) (.slice (some ⟨r2.ge, 0, none⟩) m.wear.length r2.ce) (.int .i64 m.endure) (.int .i64 m.left) (.int .u32 (U m.pick)) (.bool (!m.up))
      have hPw := E.out
      have n1 : r2.gw ≠ P := hc6.words.ne hAP6 (by decide)
      have n2 : r2.ge ≠ P := hc6.wear.ne hAP6 (by decide)
      have F1 := hAQ6.kept T9 (show ¬ (P + 1 = P) by omega)
      have F2 := hc6.kept T9 n1 n2
      have F3 := hBw6.trans (T9.below (B := w.heap.size) (fun b hb => by have : b = P := hb; omega) hBw6.size)
      have F4 := hnr.trans hB.size hn6
      rw [M.out] at R9 F2
      rw [M.out] at F1 F3
      rw [M.out]
      clear c0 c1 c2 c3 c4 c5 f0 f1 f2 f3 f4 f5 T9 hAP6 hAQ6 hc6
      go_roundw
      case rel => exact ⟨q + 1, r2, by omega, by go_num, R9, F1, F2, F4, F3⟩
      case measure => simp [intOf]; omega
    · obtain rfl : q = 64 := by omega
      simp only [refCells] at hAP
      obtain ⟨c0, c1, c2, c3, c4, c5⟩ := hAP.all6
      obtain ⟨f0, f1, f2, f3, f4, f5⟩ := hAP.thaw6
      obtain ⟨y0, y1, y2, y3, y4, y5⟩ := hAQ.all6
      obtain ⟨z0, z1, z2, z3, z4, z5⟩ := hAQ.thaw6
      obtain ⟨f, hf⟩ : ∃ f, f = dEr c b 64 := ⟨_, rfl⟩
      rw [← hf] at c0 c1 c2 c3 c4 c5 hcr hAP
      have F := Lib.hid hf
      have WE := Lib.hid (show f.wear = c.wear by rw [hf]; exact dEr_wear c b 64)
      clear hf
      obtain ⟨ii, hin, hz0, hz1, hz2⟩ := info_parts infoI
      have wl : f.wear.length = c.wear.length := by rw [WE.out]
      have w1 : 1 ≤ f.wear.length := by omega
      have w2 : f.wear.length ≤ 64 := by omega
      clear wl
      have NEWS := Lib.hid (fun (j : Nat) (u : Value) (hu : (Is f.wear)[j]? = some u) => show (wr.alloc (.cells #[] 3)).cell? ((⟨r'.ge, 0, none⟩ : Addr).add j) = some u from by
        have hj : j < f.wear.length := by
          have := (List.getElem?_eq_some_iff.1 hu).1
          rwa [Is_length] at this
        rw [add_zero_block, (hcr.wear.alloc _).cell, List.getElem?_append_left (by rw [Is_length]; exact hj)]
        exact hu)
      have x1 := (hAP.alloc (.cells #[] 3)).cell 1
      simp only [List.getElem?_cons_succ, List.getElem?_cons_zero] at x1
      go_wp2_with (at_builtin; refine wpList_append_lies _ rfl (.tmp 49) (.tmp 51) _ rfl wr.heap.size 3 ii _ 1 8 Try.underlying32 hin hz0 hz1 hz2 rfl (by omega) (.slice (some ⟨wr.heap.size, 0, none⟩) 0 0) 0 [] rfl ?own ⟨r'.ge, 0, none⟩ f.wear.length r'.ce (Is f.wear) rfl ?len NEWS.out (Is_one _) w1 (by unfold maxLen; omega) (by omega) (by simp) (wr.heap.size + 1) (by simp) ?k)
      case own => exact World.ownsRow_made wr #[] 0 (Nat.le_refl _) (by unfold maxLen; omega) rfl
      case len => rw [Is_length]; omega
      case k =>
        intro g gc w6 hown hgr hat hgl
        obtain ⟨rest, hA, hAl, hAm, hge, hAn⟩ := At.of_own hown (by omega)
        have hB6' : Below wr.heap.size wr w6 := ((Below.refl _ _).alloc (Nat.le_refl _) _).grown hgr (by simp) (by intro k hk; simp [Value.ownBlock] at hk; omega)
        have hAP6 := hAP.kept (Turned.of_below hB6' (Nat.le_refl _) NoBlock) (fun h => h)
        have hAQ6 := hAQ.kept (Turned.of_below hB6' (Nat.le_refl _) NoBlock) (fun h => h)
        have hcr6 := hcr.below hB6'
        have hBw6 : Below w.heap.size w w6 := hB.trans (hB6'.mono hB.size)
        have gP : g ≠ P := hA.ne hAP6 (by decide)
        have gQ : g ≠ P + 1 := hA.ne hAQ6 (by decide)
        have gW : g ≠ r'.gw := hA.ne hcr6.words (by decide)
        have nP1 : r'.gw ≠ P := hcr6.words.ne hAP6 (by decide)
        have nP2 : r'.gw ≠ P + 1 := hcr6.words.ne hAQ6 (by decide)
        have hgc : f.wear.length ≤ gc := by rw [← hAl, List.length_append, Is_length]; omega
        clear hown hgr hat hgl hAP hAQ hcr hB6' c0 c1 c2 c3 c4 c5 f0 f1 f2 f3 f4 f5 y0 y1 y2 y3 y4 y5 z0 z1 z2 z3 z4 z5 x1
        obtain ⟨c0, c1, c2, c3, c4, c5⟩ := hAP6.all6
        have f1 := hAP6.frozen 1
        have gb : w6.cell? ⟨g, b, none⟩ = some (.int .i64 (nm c.wear b)) := by
          rw [hA.cell, List.getElem?_append_left (by rw [Is_length, WE.out]; exact hb), WE.out]
          exact Is_get _ _ hb
        have gf := hA.frozen b
        have i1' : (b : Int) < (f.wear.length : Int) := by rw [WE.out]; exact i1
        have hmx : gc ≤ 9223372036854775807 := by unfold maxLen at hAm; omega
        go_wp2
        obtain ⟨W8, hW⟩ : ∃ W8, W8 = (w6.setCell ⟨g, b, none⟩ (.int .i64 (nm c.wear b + 1))).setCell ⟨P, 1, none⟩ (.slice (some ⟨g, 0, none⟩) f.wear.length gc) := ⟨_, rfl⟩
        have hA8 : At W8 g 3 (Is (c.wear.set b (nm c.wear b + 1)) ++ rest) := by
          rw [hW]
          refine ((hA.put b (.int .i64 (nm c.wear b + 1))).far (p := ⟨P, 1, none⟩) gP _).as ?_
          rw [WE.out, List.set_append_left _ _ (by rw [Is_length]; exact hb), Is_set]
        have AP8 : At W8 P 35 [.slice (some ⟨r'.gw, 0, none⟩) f.ws.length r'.cw, .slice (some ⟨g, 0, none⟩) f.wear.length gc, .int .i64 f.endure, .int .i64 f.left, .int .u32 (U f.pick), .bool (!f.up)] := by
          rw [hW]
          exact (hAP6.far (p := ⟨g, b, none⟩) (Ne.symm gP) _).put 1 _
        have AQ8 : At W8 (P + 1) 35 refZero := by
          rw [hW]
          exact (hAQ6.far (p := ⟨g, b, none⟩) (Ne.symm gQ) _).far (p := ⟨P, 1, none⟩) (show P + 1 ≠ P by omega) _
        have WD8 : At W8 r'.gw 33 (Us f.ws ++ r'.r1) := by
          rw [hW]
          exact (hcr6.words.far (p := ⟨g, b, none⟩) (Ne.symm gW) _).far (p := ⟨P, 1, none⟩) nP1 _
        have hPw := E.out
        have T8 : Turned (fun x => x = g ∨ x = P) w6 W8 := by
          rw [hW]
          exact ((Turned.refl _ w6).setCell (p := ⟨g, b, none⟩) (fun _ => .inl rfl) _).setCell (p := ⟨P, 1, none⟩) (fun _ => .inr rfl) _
        have hs6 := hB.size
        have hB8 : Below w.heap.size w W8 := hBw6.trans (T8.below (B := w.heap.size) (fun x hx => by rcases hx with h | h <;> omega) hBw6.size)
        rw [← hW]
        have hAl' := Lib.hid hAl
        clear hW c0 c1 c2 c3 c4 c5 f1 gb gf T8 hBw6 hA hAl hAP6 hAQ6
        obtain ⟨c0, c1, c2, c3, c4, c5⟩ := AP8.all6
        simp only [refZero] at AQ8
        obtain ⟨d0, d1, d2, d3, d4, d5⟩ := AQ8.all6
        obtain ⟨h0, h1, h2, h3, h4, h5⟩ := AQ8.thaw6
        have OUT : ∀ W9, Turned (Just (P + 1)) W8 W9 → RefOut2 w r (mEraseDo c b) (mErr c) (.returned (.tuple #[.agg #[.slice (some ⟨r'.gw, 0, none⟩) f.ws.length r'.cw, .slice (some ⟨g, 0, none⟩) f.wear.length gc, .int .i64 f.endure, .int .i64 f.left, .int .u32 (U f.pick), .bool (!f.up)], .int .i64 (mErr c)])) W9 := by
          intro W9 T9
          have nQ : r'.gw ≠ P + 1 := nP2
          have hm : ({ f with wear := c.wear.set b (nm c.wear b + 1) } : ChipM) = mEraseDo c b := by rw [F.out]; exact dEr_end c b
          have hlen : f.wear.length = (c.wear.set b (nm c.wear b + 1)).length := by rw [List.length_set, WE.out]
          refine ⟨⟨r'.gw, g, r'.cw, gc, r'.r1, rest⟩, ?_, ?_, hB8.trans (T9.below (fun x hx => by have : x = P + 1 := hx; omega) hB8.size), ⟨hnr.1, .inl (by show w.heap.size ≤ g; omega)⟩⟩
          · rw [← hm]
            simp only [refVal, hlen]
          · rw [← hm]
            refine ⟨WD8.kept T9 nQ, hA8.kept T9 gQ, hcr6.wl, ?_, hcr6.wm, hAm⟩
            rw [← hAl'.out, List.length_append, List.length_append, Is_length, Is_length, List.length_set, WE.out]
        have OUTH := Lib.hid OUT
        clear OUT hPw
        go_region_with ((go_at_call 85
                         refine (end_burn c _).mono ?_
                         rintro e w7 ⟨rfl, hw⟩
                         subst hw))
        all_goals
          simp only [List.getElem_toArray, List.getElem_cons_succ, List.getElem_cons_zero]
          go_simp
          go_wp2
          obtain ⟨W9, hW⟩ : ∃ W9, W9 = six W8 (P + 1) (.slice (some ⟨r'.gw, 0, none⟩) f.ws.length r'.cw) (.slice (some ⟨g, 0, none⟩) f.wear.length gc) (.int .i64 f.endure) (.int .i64 f.left) (.int .u32 (U f.pick)) (.bool (!f.up)) := ⟨_, rfl⟩
          have R9 := AQ8.six (.slice (some ⟨r'.gw, 0, none⟩) f.ws.length r'.cw) (.slice (some ⟨g, 0, none⟩) f.wear.length gc) (.int .i64 f.endure) (.int .i64 f.left) (.int .u32 (U f.pick)) (.bool (!f.up))
          have T9 := (Turned.refl (Just (P + 1)) W8).six (P := P + 1) (fun _ => rfl) (.slice (some ⟨r'.gw, 0, none⟩) f.ws.length r'.cw) (.slice (some ⟨g, 0, none⟩) f.wear.length gc) (.int .i64 f.endure) (.int .i64 f.left) (.int .u32 (U f.pick)) (.bool (!f.up))
          rw [← hW] at R9 T9
          change bodyPost _ _ _ _ _ (World.drew (six W8 (P + 1) (.slice (some ⟨r'.gw, 0, none⟩) f.ws.length r'.cw) (.slice (some ⟨g, 0, none⟩) f.wear.length gc) (.int .i64 f.endure) (.int .i64 f.left) (.int .u32 (U f.pick)) (.bool (!f.up))))
          rw [← hW]
          clear hW c0 c1 c2 c3 c4 c5 d0 d1 d2 d3 d4 d5 h0 h1 h2 h3 h4 h5
          obtain ⟨e0, e1, e2, e3, e4, e5⟩ := R9.all6
          exact bodyPost_ret (v := .tuple #[.agg #[.slice (some ⟨r'.gw, 0, none⟩) f.ws.length r'.cw, .slice (some ⟨g, 0, none⟩) f.wear.length gc, .int .i64 f.endure, .int .i64 f.left, .int .u32 (U f.pick), .bool (!f.up)], .int .i64 (mErr c)]) (by simp [results, Try.results71, go_sem, e0, e1, e2, e3, e4, e5]) rfl (OUTH.out _ T9.drew)

theorem rerase_any (r : Rh) (c : ChipM) (k : Nat) (a : Int) (w : World) (hc : RefAt w r c) (ok : ChipOk k c) :
    Calls Try.prog 71 #[refVal r c, .int .i64 a] w (RefOut2 w r (mErase c a).1 (mErase c a).2) := by
  unfold mErase
  by_cases hr : mRefuse c a c.wear.length = 0
  · obtain ⟨_, h1, h2⟩ := refuse_zero hr
    obtain ⟨i, rfl⟩ := Int.eq_ofNat_of_zero_le h1
    rw [if_pos hr]
    by_cases hw : c.endure ≤ nm c.wear i
    · rw [if_pos (show c.endure ≤ nm c.wear (i : Int).toNat from hw)]
      exact rerase_worn r c k i w hc ok (by omega) hr hw
    · rw [if_neg (show ¬ c.endure ≤ nm c.wear (i : Int).toNat from hw)]
      exact rerase_yes r c k i w hc ok (by omega) hr (by omega)
  · rw [if_neg hr]
    exact rerase_no r c k a w hc ok hr
end Go.Proofs.Ytfckgfimmoinmaa
