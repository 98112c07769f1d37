/- Contract of the document's own chip, on: Program. -/
import Derived.Test.YteiegkfoabhikaaNorRef3
namespace Go.Proofs.Yteiegkfoabhikaa
open Go.RowKit Bm

theorem change_any' (r : Rh) (c : ChipM) (k i : Nat) (y p : BitVec 32) (b : Bool) (w : World) (hc : RefAt w r c) (ok : ChipOk k c) (hi : i < c.ws.length) :
    Calls Try.prog 58 #[refVal r c, .int .i64 i, .int .u32 (U y), .bool b, .int .u32 (U p)] w (RefOut w r (mSet c i (if b then partB (wd c.ws i) y p else y))) := by
  cases b
  · exact change_plain r c k i y p w hc ok hi
  · exact change_burn r c k i y p w hc ok hi

theorem program_parts (c : ChipM) (i : Nat) (v : BitVec 32) :
    mSet (mChange c) i (if mBurn c then partB (wd (mChange c).ws i) (wd c.ws i &&& v) (mChange c).pick else wd c.ws i &&& v) = mProgramDo c i v := by
  unfold mSet mProgramDo mPick mBurn
  rw [mChange_ws, mChange_pick]
  by_cases h : c.left = 1
  · rw [if_pos h]
    simp [h, mChange_pick]
  · rw [if_neg h, partB_ones]
    simp [h, mChange_pick]

/-- A chip by value, and a number. -/
def RefOut2 (w : World) (r : Rh) (c : ChipM) (n : Int) (e : Ending) (w' : World) : Prop := ∃ r', e = .returned (.tuple #[refVal r' c, .int .i64 n]) ∧ RefAt w' r' c ∧ Below w.heap.size w w' ∧ RefNew w r r'

/-- The cells of a block, each for itself. -/
theorem At.all6 {w : World} {P : Nat} {t : TypeId} {z0 z1 z2 z3 z4 z5 : Value} (h : At w P t [z0, z1, z2, z3, z4, z5]) :
    w.cell? ⟨P, 0, none⟩ = some z0 ∧ w.cell? ⟨P, 1, none⟩ = some z1 ∧ w.cell? ⟨P, 2, none⟩ = some z2 ∧ w.cell? ⟨P, 3, none⟩ = some z3 ∧ w.cell? ⟨P, 4, none⟩ = some z4 ∧ w.cell? ⟨P, 5, none⟩ = some z5 :=
  ⟨h.cell 0, h.cell 1, h.cell 2, h.cell 3, h.cell 4, h.cell 5⟩
theorem At.thaw6 {w : World} {P : Nat} {t : TypeId} {cs : List Value} (h : At w P t cs) :
    w.frozen? ⟨P, 0, none⟩ = false ∧ w.frozen? ⟨P, 1, none⟩ = false ∧ w.frozen? ⟨P, 2, none⟩ = false ∧ w.frozen? ⟨P, 3, none⟩ = false ∧ w.frozen? ⟨P, 4, none⟩ = false ∧ w.frozen? ⟨P, 5, none⟩ = false :=
  ⟨h.frozen 0, h.frozen 1, h.frozen 2, h.frozen 3, h.frozen 4, h.frozen 5⟩

set_option maxRecDepth 100000 in
set_option maxHeartbeats 1000000 in
theorem rprogram_no (r : Rh) (c : ChipM) (k : Nat) (a : Int) (v : BitVec 32) (w : World) (hc : RefAt w r c) (ok : ChipOk k c) (hr : mRefuse c a c.ws.length ≠ 0) :
    Calls Try.prog 43 #[refVal r c, .int .i64 a, .int .u32 (U v)] w (RefOut2 w r c (mRefuse c a c.ws.length)) := by
  have hl := ok.words
  have k1 := ok.k1
  have q : (mRefuse c a c.ws.length == 0) = false := by rw [beq_eq_false_iff_ne]; exact hr
  have q' : (mRefuse c a c.ws.length != 0) = true := by rw [bne_iff_ne]; exact hr
  have WR := Lib.hid fun W => wrong_any r c a c.ws.length W (by omega)
  have HC := Lib.hid hc
  have A1 := At.news w 32 (refCells r c)
  have A2 := At.news (w.alloc (.cells (refCells r c).toArray 32)) 32 refZero
  have A3 := A1.alloc (.cells refZero.toArray 32)
  have B2 := below_two w (.cells (refCells r c).toArray 32) (.cells refZero.toArray 32)
  have hs1 : (w.alloc (.cells (refCells r c).toArray 32)).heap.size = w.heap.size + 1 := by rw [World.size_alloc]
  rw [hs1] at A2
  simp only [refCells, refZero] at A2 A3 B2
  clear A1 hc hl hs1 hr
  obtain ⟨P, hP⟩ : ∃ P, P = w.heap.size := ⟨_, rfl⟩
  unfold refVal
  go_enter Try.func43, Try.ntmps43
  go_wp2_with fail
  refine (WR.out _).mono ?_
  rintro e w3 ⟨rfl, hB⟩
  have hB3 : Below w.heap.size w w3 := B2.trans (hB.mono B2.size)
  have A2' := A2.kept (Turned.of_below hB (Nat.le_refl _) NoBlock) (fun h => h)
  have A3' := A3.kept (Turned.of_below hB (Nat.le_refl _) NoBlock) (fun h => h)
  have E := Lib.hid hP
  rw [← hP] at A2' A3' ⊢
  clear hP A2 A3 B2 hB
  obtain ⟨c0, c1, c2, c3, c4, c5⟩ := A3'.all6
  obtain ⟨d0, d1, d2, d3, d4, d5⟩ := A2'.all6
  obtain ⟨h0, h1, h2, h3, h4, h5⟩ := A2'.thaw6
  go_wp2
  obtain ⟨W9, hW⟩ : ∃ W9, W9 = six w3 (P + 1) (.slice (some ⟨r.gw, 0, none⟩) c.ws.length r.cw) (.slice (some ⟨r.ge, 0, none⟩) c.wear.length r.ce) (.int .i64 c.endure) (.int .i64 c.left) (.int .u32 (U c.pick)) (.bool (!c.up)) := ⟨_, rfl⟩
  have R9 := A2'.six (.slice (some ⟨r.gw, 0, none⟩) c.ws.length r.cw) (.slice (some ⟨r.ge, 0, none⟩) c.wear.length r.ce) (.int .i64 c.endure) (.int .i64 c.left) (.int .u32 (U c.pick)) (.bool (!c.up))
  have T9 := (Turned.refl (fun b => b = P + 1) w3).six (P := P + 1) (fun _ => rfl) (.slice (some ⟨r.gw, 0, none⟩) c.ws.length r.cw) (.slice (some ⟨r.ge, 0, none⟩) c.wear.length r.ce) (.int .i64 c.endure) (.int .i64 c.left) (.int .u32 (U c.pick)) (.bool (!c.up))
  rw [← hW] at R9 T9
  change bodyPost _ _ _ _ _ (six w3 (P + 1) (.slice (some ⟨r.gw, 0, none⟩) c.ws.length r.cw) (.slice (some ⟨r.ge, 0, none⟩) c.wear.length r.ce) (.int .i64 c.endure) (.int .i64 c.left) (.int .u32 (U c.pick)) (.bool (!c.up)))
  rw [← hW]
  clear hW c0 c1 c2 c3 c4 c5 d0 d1 d2 d3 d4 d5 h0 h1 h2 h3 h4 h5
  obtain ⟨e0, e1, e2, e3, e4, e5⟩ := R9.all6
  refine bodyPost_ret (v := .tuple #[.agg #[.slice (some ⟨r.gw, 0, none⟩) c.ws.length r.cw, .slice (some ⟨r.ge, 0, none⟩) c.wear.length r.ce, .int .i64 c.endure, .int .i64 c.left, .int .u32 (U c.pick), .bool (!c.up)], .int .i64 (mRefuse c a c.ws.length)]) (by simp [results, Try.results43, go_sem, e0, e1, e2, e3, e4, e5]) rfl ?_
  have hP := E.out
  have h0 := HC.out
  have hw3 := hB3.size
  have g1 : r.ge < w.heap.size := h0.wear.lt
  have g2 : r.gw < w.heap.size := h0.words.lt
  exact ⟨r, rfl, (h0.below hB3).kept T9 (by show ¬ (r.gw = P + 1); omega) (by show ¬ (r.ge = P + 1); omega), hB3.trans (T9.below (by intro b hb; omega) hw3), RefNew.refl _ _⟩

set_option maxRecDepth 100000 in
set_option maxHeartbeats 2000000 in
theorem rprogram_yes (r : Rh) (c : ChipM) (k i : Nat) (v : BitVec 32) (w : World) (hc : RefAt w r c) (ok : ChipOk k c) (hi : i < c.ws.length) (hr : mRefuse c i c.ws.length = 0) :
    Calls Try.prog 43 #[refVal r c, .int .i64 i, .int .u32 (U v)] w (RefOut2 w r (mProgramDo c i v) (mErr c)) := by
  have hl := ok.words
  have k1 := ok.k1
  have k2 := ok.k2
  have hu := Lib.hid (refuse_zero hr).1
  have l0 := ok.l0
  have l1 := ok.l1
  have wle := hc.wle
  have wm := hc.wm
  unfold maxLen at wm
  have WR := Lib.hid fun W => wrong_any r c i c.ws.length W (by omega)
  have HC := Lib.hid hc
  have A1 := At.news w 32 (refCells r c)
  have A2 := At.news (w.alloc (.cells (refCells r c).toArray 32)) 32 refZero
  have A3 := A1.alloc (.cells refZero.toArray 32)
  have B2 := below_two w (.cells (refCells r c).toArray 32) (.cells refZero.toArray 32)
  have hs1 : (w.alloc (.cells (refCells r c).toArray 32)).heap.size = w.heap.size + 1 := by rw [World.size_alloc]
  rw [hs1] at A2
  simp only [refCells, refZero] at A2 A3 B2
  clear A1 hc hs1
  obtain ⟨P, hP⟩ : ∃ P, P = w.heap.size := ⟨_, rfl⟩
  have HLW := Lib.hid hl
  clear hl
  unfold refVal
  go_enter Try.func43, Try.ntmps43
  go_wp2_with fail
  refine (WR.out _).mono ?_
  rintro e w3 ⟨rfl, hB⟩
  rw [hr]
  have hB3 : Below w.heap.size w w3 := B2.trans (hB.mono B2.size)
  have A2' := A2.kept (Turned.of_below hB (Nat.le_refl _) NoBlock) (fun h => h)
  have A3' := A3.kept (Turned.of_below hB (Nat.le_refl _) NoBlock) (fun h => h)
  have E := Lib.hid hP
  rw [← hP] at A2' A3' ⊢
  clear hP A2 A3 B2 hB hr
  obtain ⟨c0, c1, c2, c3, c4, c5⟩ := A3'.all6
  go_wp2_with fail
  refine (burnt_any r c w3 hu.out l0 l1).mono ?_
  rintro e w4 ⟨rfl, hB⟩
  have hB4 : Below w.heap.size w w4 := hB3.trans (hB.mono hB3.size)
  have A2'' := A2'.kept (Turned.of_below hB (Nat.le_refl _) NoBlock) (fun h => h)
  have A3'' := A3'.kept (Turned.of_below hB (Nat.le_refl _) NoBlock) (fun h => h)
  clear c0 c1 c2 c3 c4 c5 A2' A3' hB hB3
  obtain ⟨c0, c1, c2, c3, c4, c5⟩ := A3''.all6
  obtain ⟨f0, f1, f2, f3, f4, f5⟩ := A3''.thaw6
  have okc := ok.change
  have ews := mChange_ws c
  obtain ⟨d, hd⟩ : ∃ d, d = mChange c := ⟨_, rfl⟩
  rw [← hd] at okc ews
  simp only [refVal]
  rw [← hd]
  have D := Lib.hid hd
  have EW := Lib.hid ews
  clear hd ews
  go_wp2
  obtain ⟨W5, hW⟩ : ∃ W5, W5 = six w4 P (.slice (some ⟨r.gw, 0, none⟩) d.ws.length r.cw) (.slice (some ⟨r.ge, 0, none⟩) d.wear.length r.ce) (.int .i64 d.endure) (.int .i64 d.left) (.int .u32 (U d.pick)) (.bool (!d.up)) := ⟨_, rfl⟩
  have R5 := A3''.six (.slice (some ⟨r.gw, 0, none⟩) d.ws.length r.cw) (.slice (some ⟨r.ge, 0, none⟩) d.wear.length r.ce) (.int .i64 d.endure) (.int .i64 d.left) (.int .u32 (U d.pick)) (.bool (!d.up))
  have T5 := (Turned.refl (Just P) w4).six (P := P) (fun _ => rfl) (.slice (some ⟨r.gw, 0, none⟩) d.ws.length r.cw) (.slice (some ⟨r.ge, 0, none⟩) d.wear.length r.ce) (.int .i64 d.endure) (.int .i64 d.left) (.int .u32 (U d.pick)) (.bool (!d.up))
  rw [← hW] at R5 T5
  change Code.wp _ _ _ _ (six w4 P (.slice (some ⟨r.gw, 0, none⟩) d.ws.length r.cw) (.slice (some ⟨r.ge, 0, none⟩) d.wear.length r.ce) (.int .i64 d.endure) (.int .i64 d.left) (.int .u32 (U d.pick)) (.bool (!d.up)))
  rw [← hW]
  have hPw : P = w.heap.size := E.out
  have A25 := A2''.kept T5 (show ¬ (P + 1 = P) by omega)
  have hc5 : RefAt W5 r d := by
    have h0 := ((HC.out).below hB4).change
    rw [← D.out] at h0
    have g1 : r.ge < w.heap.size := HC.out.wear.lt
    have g2 : r.gw < w.heap.size := HC.out.words.lt
    exact h0.kept T5 (show ¬ (r.gw = P) by omega) (show ¬ (r.ge = P) by omega)
  have hB5 : Below w.heap.size w W5 := hB4.trans (T5.below (fun b hb => by have : b = P := hb; omega) hB4.size)
  clear hW c0 c1 c2 c3 c4 c5 f0 f1 f2 f3 f4 f5 A2'' A3'' T5 hB4 hPw
  obtain ⟨c0, c1, c2, c3, c4, c5⟩ := R5.all6
  obtain ⟨x, hx⟩ : ∃ x, x = wd c.ws i := ⟨_, rfl⟩
  have hid : i < d.ws.length := by rw [EW.out]; exact hi
  have gi := hc5.word i hid
  rw [EW.out, ← hx] at gi
  have X := Lib.hid hx
  have wle5 : d.ws.length ≤ r.cw := hc5.wle
  clear hx
  go_loop [10, 11] (fun z j => ∃ q : Nat, q ≤ 32 ∧ j = .int .i64 q ∧ z = .int .u32 (U (fieldB (x &&& v) 0 q))) (fun _ j => 32 - (intOf j).toNat)
  case atStart => exact ⟨0, by omega, rfl, by rw [show (((0 : Nat) : Int)) = 0 from rfl, and_start]; rfl⟩
  case round =>
    obtain ⟨q, hq, rfl, rfl⟩ := hrel
    by_cases hlt : q < 32
    · have PR := Lib.hid (and_bits x v q)
      have PL := and_bits_le x v q
      go_wp2_with fail
      refine (rfield_any x q 1 _ (by omega) (by omega)).mono ?_
      rintro e w6 ⟨rfl, hw⟩
      subst hw
      go_wp2_with fail
      refine (rfield_any v q 1 _ (by omega) (by omega)).mono ?_
      rintro e w6 ⟨rfl, hw⟩
      subst hw
      go_wp2_with fail
      rw [PR.out]
      have ST := Lib.hid (and_step (x &&& v) q hlt)
      refine (rput_any _ q 1 _ _ (by omega) (by omega)).mono ?_
      rintro e w6 ⟨rfl, hw⟩
      subst hw
      rw [ST.out]
      go_wp2
      go_round
      case rel => exact ⟨q + 1, by omega, by go_num, by rw [show ((q + 1 : Nat) : Int) = (q : Int) + 1 by omega]⟩
      case measure => simp [intOf]; omega
    · obtain rfl : q = 32 := by omega
      rw [show (((32 : Nat) : Int)) = 32 from rfl, and_end]
      have CH := Lib.hid (change_any' r d k i (x &&& v) d.pick (mBurn c) W5 hc5 okc hid)
      go_wp2_with fail
      refine Calls.mono CH.out ?_
      rintro e w6 ⟨r', rfl, hc6, hB6, hn6⟩
      have hB6w : Below w.heap.size w w6 := hB5.trans (hB6.mono hB5.size)
      have hsz := A25.lt
      have A26 := A25.kept (Turned.of_below hB6 (Nat.le_refl _) NoBlock) (fun h => h)
      have hm : mSet d i (if mBurn c = true then partB (wd d.ws i) (x &&& v) d.pick else x &&& v) = mProgramDo c i v := by
        have := program_parts c i v
        rw [← D.out, EW.out, ← X.out] at this
        rw [EW.out, ← X.out]
        exact this
      rw [hm] at hc6 ⊢
      clear hm c0 c1 c2 c3 c4 c5 gi R5 A25 hc5 CH
      have EB := Lib.hid (mErr_burn c)
      go_wp2_with fail
      refine (end_any (mBurn c) w6).mono ?_
      rintro e w7 ⟨rfl, hw⟩
      subst hw
      rw [← EB.out]
      obtain ⟨f, hf⟩ : ∃ f, f = mProgramDo c i v := ⟨_, rfl⟩
      rw [← hf] at hc6 ⊢
      have F := Lib.hid hf
      clear hf
      obtain ⟨d0, d1, d2, d3, d4, d5⟩ := A26.all6
      obtain ⟨h0, h1, h2, h3, h4, h5⟩ := A26.thaw6
      simp only [refVal]
      go_wp2
      obtain ⟨W9, hW⟩ : ∃ W9, W9 = six w7 (P + 1) (.slice (some ⟨r'.gw, 0, none⟩) f.ws.length r'.cw) (.slice (some ⟨r'.ge, 0, none⟩) f.wear.length r'.ce) (.int .i64 f.endure) (.int .i64 f.left) (.int .u32 (U f.pick)) (.bool (!f.up)) := ⟨_, rfl⟩
      have R9 := A26.six (.slice (some ⟨r'.gw, 0, none⟩) f.ws.length r'.cw) (.slice (some ⟨r'.ge, 0, none⟩) f.wear.length r'.ce) (.int .i64 f.endure) (.int .i64 f.left) (.int .u32 (U f.pick)) (.bool (!f.up))
      have T9 := (Turned.refl (Just (P + 1)) w7).six (P := P + 1) (fun _ => rfl) (.slice (some ⟨r'.gw, 0, none⟩) f.ws.length r'.cw) (.slice (some ⟨r'.ge, 0, none⟩) f.wear.length r'.ce) (.int .i64 f.endure) (.int .i64 f.left) (.int .u32 (U f.pick)) (.bool (!f.up))
      rw [← hW] at R9 T9
      change bodyPost _ _ _ _ _ (six w7 (P + 1) (.slice (some ⟨r'.gw, 0, none⟩) f.ws.length r'.cw) (.slice (some ⟨r'.ge, 0, none⟩) f.wear.length r'.ce) (.int .i64 f.endure) (.int .i64 f.left) (.int .u32 (U f.pick)) (.bool (!f.up)))
      rw [← hW]
      clear hW d0 d1 d2 d3 d4 d5 h0 h1 h2 h3 h4 h5
      obtain ⟨e0, e1, e2, e3, e4, e5⟩ := R9.all6
      refine bodyPost_ret (v := .tuple #[.agg #[.slice (some ⟨r'.gw, 0, none⟩) f.ws.length r'.cw, .slice (some ⟨r'.ge, 0, none⟩) f.wear.length r'.ce, .int .i64 f.endure, .int .i64 f.left, .int .u32 (U f.pick), .bool (!f.up)], .int .i64 (mErr c)]) (by simp [results, Try.results43, go_sem, e0, e1, e2, e3, e4, e5]) rfl ?_
      have hP := E.out
      have h0 := HC.out
      have g1 : r.ge < w.heap.size := h0.wear.lt
      have g2 : r.gw < w.heap.size := h0.words.lt
      have n1 : r'.gw ≠ P + 1 := by rcases hn6.1 with h | h <;> omega
      have n2 : r'.ge ≠ P + 1 := by rcases hn6.2 with h | h <;> omega
      rw [← F.out]
      exact ⟨r', rfl, hc6.kept T9 n1 n2, hB6w.trans (T9.below (fun b hb => by have : b = P + 1 := hb; omega) hB6w.size), (RefNew.refl w r).trans hB5.size hn6⟩

theorem rprogram_any (r : Rh) (c : ChipM) (k : Nat) (a : Int) (v : BitVec 32) (w : World) (hc : RefAt w r c) (ok : ChipOk k c) :
    Calls Try.prog 43 #[refVal r c, .int .i64 a, .int .u32 (U v)] w (RefOut2 w r (mProgram c a v).1 (mProgram c a v).2) := by
  unfold mProgram
  by_cases hr : mRefuse c a c.ws.length = 0
  · obtain ⟨_, h1, h2⟩ := refuse_zero hr
    obtain ⟨i, rfl⟩ := Int.eq_ofNat_of_zero_le h1
    rw [if_pos hr]
    exact rprogram_yes r c k i v w hc ok (by omega) hr
  · rw [if_neg hr]
    exact rprogram_no r c k a v w hc ok hr
end Go.Proofs.Yteiegkfoabhikaa
