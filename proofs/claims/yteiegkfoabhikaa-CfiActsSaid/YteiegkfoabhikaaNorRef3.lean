/- Contracts of the document's own chip, on: change, Program. -/
import Derived.Test.YteiegkfoabhikaaNorRef2
namespace Go.Proofs.Yteiegkfoabhikaa
open Go.RowKit Bm

/-- A chip by value that the call made of r's rows and new ones. -/
def RefOut (w : World) (r : Rh) (c : ChipM) (e : Ending) (w' : World) : Prop := ∃ r', e = .returned (refVal r' c) ∧ RefAt w' r' c ∧ Below w.heap.size w w' ∧ RefNew w r r'

def refCells (r : Rh) (c : ChipM) : List Value := [.slice (some ⟨r.gw, 0, none⟩) c.ws.length r.cw, .slice (some ⟨r.ge, 0, none⟩) c.wear.length r.ce, .int .i64 c.endure, .int .i64 c.left, .int .u32 (U c.pick), .bool (!c.up)]
def refZero : List Value := [.slice none 0 0, .slice none 0 0, .int .i64 0, .int .i64 0, .int .u32 0, .bool false]
def mSet (c : ChipM) (i : Nat) (z : BitVec 32) : ChipM := { c with ws := c.ws.set i z }

theorem RefAt.change {w : World} {r : Rh} {c : ChipM} (h : RefAt w r c) : RefAt w r (mChange c) :=
  ⟨by rw [mChange_ws]; exact h.words, by rw [mChange_wear]; exact h.wear, by rw [mChange_ws]; exact h.wl, by rw [mChange_wear]; exact h.el, h.wm, h.em⟩

/-- Six cells stored, one behind the other, and read again. -/
def six (w : World) (P : Nat) (a b c d e f : Value) : World := (((((w.setCell ⟨P, 0, none⟩ a).setCell ⟨P, 1, none⟩ b).setCell ⟨P, 2, none⟩ c).setCell ⟨P, 3, none⟩ d).setCell ⟨P, 4, none⟩ e).setCell ⟨P, 5, none⟩ f
theorem At.six {w : World} {P : Nat} {t : TypeId} {z0 z1 z2 z3 z4 z5 : Value} (h : At w P t [z0, z1, z2, z3, z4, z5]) (a b c d e f : Value) : At (six w P a b c d e f) P t [a, b, c, d, e, f] :=
  (((((h.put 0 a).put 1 b).put 2 c).put 3 d).put 4 e).put 5 f
theorem Turned.six {S : Nat → Prop} {a w : World} (h : Turned S a w) {P : Nat} (hp : P < a.heap.size → S P) (v0 v1 v2 v3 v4 v5 : Value) : Turned S a (six w P v0 v1 v2 v3 v4 v5) :=
  (((((h.setCell (p := ⟨P, 0, none⟩) hp v0).setCell (p := ⟨P, 1, none⟩) hp v1).setCell (p := ⟨P, 2, none⟩) hp v2).setCell (p := ⟨P, 3, none⟩) hp v3).setCell (p := ⟨P, 4, none⟩) hp v4).setCell (p := ⟨P, 5, none⟩) hp v5

set_option maxRecDepth 100000 in
set_option maxHeartbeats 1000000 in
theorem change_plain (r : Rh) (c : ChipM) (k i : Nat) (y p : BitVec 32) (w : World) (hc : RefAt w r c) (ok : ChipOk k c) (hi : i < c.ws.length) :
    Calls Try.prog 58 #[refVal r c, .int .i64 i, .int .u32 (U y), .bool false, .int .u32 (U p)] w (RefOut w r (mSet c i y)) := by
  have hl := ok.words
  have k2 := ok.k2
  have put : ∀ W : World, Below w.heap.size w W → Calls Try.prog 68 #[.slice (some ⟨r.gw, 0, none⟩) c.ws.length r.cw, .int .i64 i, .int .u32 (U y)] W (Fresh W 30 (Us (c.ws.set i y))) := fun W hB =>
    put_any' r.gw r.cw c.ws.length i c.ws r.r1 y W (hc.words.kept (Turned.of_below hB (Nat.le_refl _) NoBlock) (fun h => h)) rfl hc.wl hc.wm hi (by omega)
  have PUT := Lib.hid put
  have HC := Lib.hid hc
  have A1 := At.news w 32 (refCells r c)
  have A2 := At.news (w.alloc (.cells (refCells r c).toArray 32)) 32 refZero
  have A3 := A1.alloc (.cells refZero.toArray 32)
  have B2 := below_two w (.cells (refCells r c).toArray 32) (.cells refZero.toArray 32)
  have hs : ((w.alloc (.cells (refCells r c).toArray 32)).alloc (.cells refZero.toArray 32)).heap.size = w.heap.size + 2 := by rw [World.size_alloc, World.size_alloc]
  have hs1 : (w.alloc (.cells (refCells r c).toArray 32)).heap.size = w.heap.size + 1 := by rw [World.size_alloc]
  rw [hs1] at A2
  simp only [refCells, refZero] at A2 A3 B2 hs
  clear A1 hc put hl hs1
  obtain ⟨P, hP⟩ : ∃ P, P = w.heap.size := ⟨_, rfl⟩
  unfold refVal
  go_enter Try.func58, Try.ntmps58
  go_wp2_with fail
  refine Calls.mono (PUT.out _ B2) ?_
  rintro e w3 ⟨g, cw, rest, rfl, hA, hAl, hAm, hge, hB⟩
  have hB3 : Below w.heap.size w w3 := B2.trans (hB.mono B2.size)
  have A2' := A2.kept (Turned.of_below hB (Nat.le_refl _) NoBlock) (fun h => h)
  have A3' := A3.kept (Turned.of_below hB (Nat.le_refl _) NoBlock) (fun h => h)
  rw [hs] at hge
  have E := Lib.hid hP
  rw [← hP] at A2' A3' hge ⊢
  clear hP A2 A3 B2 hs hB
  have c0 := A3'.cell 0
  have c1 := A3'.cell 1
  have c2 := A3'.cell 2
  have c3 := A3'.cell 3
  have c4 := A3'.cell 4
  have c5 := A3'.cell 5
  have f0 := A3'.frozen 0
  have d0 := A2'.cell 0
  have d1 := A2'.cell 1
  have d2 := A2'.cell 2
  have d3 := A2'.cell 3
  have d4 := A2'.cell 4
  have d5 := A2'.cell 5
  have h0 := A2'.frozen 0
  have h1 := A2'.frozen 1
  have h2 := A2'.frozen 2
  have h3 := A2'.frozen 3
  have h4 := A2'.frozen 4
  have h5 := A2'.frozen 5
  simp only [List.getElem?_cons_succ, List.getElem?_cons_zero] at c0 c1 c2 c3 c4 c5 d0 d1 d2 d3 d4 d5
  rw [Us_length, List.length_set]
  go_wp2
  obtain ⟨W9, hW⟩ : ∃ W9, W9 = six (w3.setCell ⟨P, 0, none⟩ (.slice (some ⟨g, 0, none⟩) c.ws.length cw)) (P + 1) (.slice (some ⟨g, 0, none⟩) c.ws.length cw) (.slice (some ⟨r.ge, 0, none⟩) c.wear.length r.ce) (.int .i64 c.endure) (.int .i64 c.left) (.int .u32 (U c.pick)) (.bool (!c.up)) := ⟨_, rfl⟩
  have R9 := (A2'.far (p := ⟨P, 0, none⟩) (show P + 1 ≠ P by omega) (.slice (some ⟨g, 0, none⟩) c.ws.length cw)).six (.slice (some ⟨g, 0, none⟩) c.ws.length cw) (.slice (some ⟨r.ge, 0, none⟩) c.wear.length r.ce) (.int .i64 c.endure) (.int .i64 c.left) (.int .u32 (U c.pick)) (.bool (!c.up))
  have T9 := ((Turned.refl (fun b => b = P ∨ b = P + 1) w3).setCell (p := ⟨P, 0, none⟩) (fun _ => .inl rfl) (.slice (some ⟨g, 0, none⟩) c.ws.length cw)).six (P := P + 1) (fun _ => .inr rfl) (.slice (some ⟨g, 0, none⟩) c.ws.length cw) (.slice (some ⟨r.ge, 0, none⟩) c.wear.length r.ce) (.int .i64 c.endure) (.int .i64 c.left) (.int .u32 (U c.pick)) (.bool (!c.up))
  rw [← hW] at R9 T9
  change bodyPost _ _ _ _ _ (six (w3.setCell ⟨P, 0, none⟩ (.slice (some ⟨g, 0, none⟩) c.ws.length cw)) (P + 1) (.slice (some ⟨g, 0, none⟩) c.ws.length cw) (.slice (some ⟨r.ge, 0, none⟩) c.wear.length r.ce) (.int .i64 c.endure) (.int .i64 c.left) (.int .u32 (U c.pick)) (.bool (!c.up)))
  rw [← hW]
  clear hW c0 c1 c2 c3 c4 c5 f0 d0 d1 d2 d3 d4 d5 h0 h1 h2 h3 h4 h5
  have e0 := R9.cell 0
  have e1 := R9.cell 1
  have e2 := R9.cell 2
  have e3 := R9.cell 3
  have e4 := R9.cell 4
  have e5 := R9.cell 5
  simp only [List.getElem?_cons_succ, List.getElem?_cons_zero] at e0 e1 e2 e3 e4 e5
  refine bodyPost_ret (v := .agg #[.slice (some ⟨g, 0, none⟩) c.ws.length cw, .slice (some ⟨r.ge, 0, none⟩) c.wear.length r.ce, .int .i64 c.endure, .int .i64 c.left, .int .u32 (U c.pick), .bool (!c.up)]) (by simp [results, Try.results58, go_sem, e0, e1, e2, e3, e4, e5]) rfl ?_
  have hP := E.out
  have h0 := HC.out
  have hw3 := hB3.size
  have g1 : r.ge < w.heap.size := h0.wear.lt
  refine ⟨⟨g, r.ge, cw, r.ce, rest, r.r2⟩, by simp [refVal, mSet], ⟨hA.kept T9 (by omega), (h0.below hB3).wear.kept T9 (by show ¬ (r.ge = P ∨ r.ge = P + 1); omega), hAl, h0.el, hAm, h0.em⟩, hB3.trans (T9.below (by intro b hb; omega) hw3), ⟨.inl (by show w.heap.size ≤ g; omega), .inr rfl⟩⟩
set_option maxRecDepth 100000 in
set_option maxHeartbeats 1000000 in
theorem change_burn (r : Rh) (c : ChipM) (k i : Nat) (y p : BitVec 32) (w : World) (hc : RefAt w r c) (ok : ChipOk k c) (hi : i < c.ws.length) :
    Calls Try.prog 58 #[refVal r c, .int .i64 i, .int .u32 (U y), .bool true, .int .u32 (U p)] w (RefOut w r (mSet c i (partB (wd c.ws i) y p))) := by
  have hl := ok.words
  have k2 := ok.k2
  have put : ∀ W : World, Below w.heap.size w W → Calls Try.prog 68 #[.slice (some ⟨r.gw, 0, none⟩) c.ws.length r.cw, .int .i64 i, .int .u32 (U (partB (wd c.ws i) y p))] W (Fresh W 30 (Us (c.ws.set i (partB (wd c.ws i) y p)))) := fun W hB =>
    put_any' r.gw r.cw c.ws.length i c.ws r.r1 (partB (wd c.ws i) y p) W (hc.words.kept (Turned.of_below hB (Nat.le_refl _) NoBlock) (fun h => h)) rfl hc.wl hc.wm hi (by omega)
  have PUT := Lib.hid put
  have HC := Lib.hid hc
  have A1 := At.news w 32 (refCells r c)
  have A2 := At.news (w.alloc (.cells (refCells r c).toArray 32)) 32 refZero
  have A3 := A1.alloc (.cells refZero.toArray 32)
  have B2 := below_two w (.cells (refCells r c).toArray 32) (.cells refZero.toArray 32)
  have hs : ((w.alloc (.cells (refCells r c).toArray 32)).alloc (.cells refZero.toArray 32)).heap.size = w.heap.size + 2 := by rw [World.size_alloc, World.size_alloc]
  have hs1 : (w.alloc (.cells (refCells r c).toArray 32)).heap.size = w.heap.size + 1 := by rw [World.size_alloc]
  rw [hs1] at A2
  simp only [refCells, refZero] at A2 A3 B2 hs
  clear A1 hc put hl hs1
  obtain ⟨P, hP⟩ : ∃ P, P = w.heap.size := ⟨_, rfl⟩
  unfold refVal
  go_enter Try.func58, Try.ntmps58
  have gi := (HC.out.below B2).word i hi
  have wle := HC.out.wle
  have wm := HC.out.wm
  unfold maxLen at wm
  go_wp2_with fail
  refine (rpartial_any (wd c.ws i) y p _).mono ?_
  rintro e w3 ⟨rfl, hw⟩
  subst hw
  clear gi
  go_wp2_with fail
  refine Calls.mono (PUT.out _ B2) ?_
  rintro e w3 ⟨g, cw, rest, rfl, hA, hAl, hAm, hge, hB⟩
  have hB3 : Below w.heap.size w w3 := B2.trans (hB.mono B2.size)
  have A2' := A2.kept (Turned.of_below hB (Nat.le_refl _) NoBlock) (fun h => h)
  have A3' := A3.kept (Turned.of_below hB (Nat.le_refl _) NoBlock) (fun h => h)
  rw [hs] at hge
  have E := Lib.hid hP
  rw [← hP] at A2' A3' hge ⊢
  clear hP A2 A3 B2 hs hB
  have c0 := A3'.cell 0
  have c1 := A3'.cell 1
  have c2 := A3'.cell 2
  have c3 := A3'.cell 3
  have c4 := A3'.cell 4
  have c5 := A3'.cell 5
  have f0 := A3'.frozen 0
  have d0 := A2'.cell 0
  have d1 := A2'.cell 1
  have d2 := A2'.cell 2
  have d3 := A2'.cell 3
  have d4 := A2'.cell 4
  have d5 := A2'.cell 5
  have h0 := A2'.frozen 0
  have h1 := A2'.frozen 1
  have h2 := A2'.frozen 2
  have h3 := A2'.frozen 3
  have h4 := A2'.frozen 4
  have h5 := A2'.frozen 5
  simp only [List.getElem?_cons_succ, List.getElem?_cons_zero] at c0 c1 c2 c3 c4 c5 d0 d1 d2 d3 d4 d5
  rw [Us_length, List.length_set]
  go_wp2
  obtain ⟨W9, hW⟩ : ∃ W9, W9 = six (w3.setCell ⟨P, 0, none⟩ (.slice (some ⟨g, 0, none⟩) c.ws.length cw)) (P + 1) (.slice (some ⟨g, 0, none⟩) c.ws.length cw) (.slice (some ⟨r.ge, 0, none⟩) c.wear.length r.ce) (.int .i64 c.endure) (.int .i64 c.left) (.int .u32 (U c.pick)) (.bool (!c.up)) := ⟨_, rfl⟩
  have R9 := (A2'.far (p := ⟨P, 0, none⟩) (show P + 1 ≠ P by omega) (.slice (some ⟨g, 0, none⟩) c.ws.length cw)).six (.slice (some ⟨g, 0, none⟩) c.ws.length cw) (.slice (some ⟨r.ge, 0, none⟩) c.wear.length r.ce) (.int .i64 c.endure) (.int .i64 c.left) (.int .u32 (U c.pick)) (.bool (!c.up))
  have T9 := ((Turned.refl (fun b => b = P ∨ b = P + 1) w3).setCell (p := ⟨P, 0, none⟩) (fun _ => .inl rfl) (.slice (some ⟨g, 0, none⟩) c.ws.length cw)).six (P := P + 1) (fun _ => .inr rfl) (.slice (some ⟨g, 0, none⟩) c.ws.length cw) (.slice (some ⟨r.ge, 0, none⟩) c.wear.length r.ce) (.int .i64 c.endure) (.int .i64 c.left) (.int .u32 (U c.pick)) (.bool (!c.up))
  rw [← hW] at R9 T9
  change bodyPost _ _ _ _ _ (six (w3.setCell ⟨P, 0, none⟩ (.slice (some ⟨g, 0, none⟩) c.ws.length cw)) (P + 1) (.slice (some ⟨g, 0, none⟩) c.ws.length cw) (.slice (some ⟨r.ge, 0, none⟩) c.wear.length r.ce) (.int .i64 c.endure) (.int .i64 c.left) (.int .u32 (U c.pick)) (.bool (!c.up)))
  rw [← hW]
  clear hW c0 c1 c2 c3 c4 c5 f0 d0 d1 d2 d3 d4 d5 h0 h1 h2 h3 h4 h5
  have e0 := R9.cell 0
  have e1 := R9.cell 1
  have e2 := R9.cell 2
  have e3 := R9.cell 3
  have e4 := R9.cell 4
  have e5 := R9.cell 5
  simp only [List.getElem?_cons_succ, List.getElem?_cons_zero] at e0 e1 e2 e3 e4 e5
  refine bodyPost_ret (v := .agg #[.slice (some ⟨g, 0, none⟩) c.ws.length cw, .slice (some ⟨r.ge, 0, none⟩) c.wear.length r.ce, .int .i64 c.endure, .int .i64 c.left, .int .u32 (U c.pick), .bool (!c.up)]) (by simp [results, Try.results58, go_sem, e0, e1, e2, e3, e4, e5]) rfl ?_
  have hP := E.out
  have h0 := HC.out
  have hw3 := hB3.size
  have g1 : r.ge < w.heap.size := h0.wear.lt
  refine ⟨⟨g, r.ge, cw, r.ce, rest, r.r2⟩, by simp [refVal, mSet], ⟨hA.kept T9 (by omega), (h0.below hB3).wear.kept T9 (by show ¬ (r.ge = P ∨ r.ge = P + 1); omega), hAl, h0.el, hAm, h0.em⟩, hB3.trans (T9.below (by intro b hb; omega) hw3), ⟨.inl (by show w.heap.size ≤ g; omega), .inr rfl⟩⟩
end Go.Proofs.Yteiegkfoabhikaa
