/- Both blocks of a call of the document's flash: its argument's, and its result's. -/
import Derived.Test.YtfckgfimmoinmaaCfiRA
namespace Go.Proofs.Ytfckgfimmoinmaa
open Go.RowKit Bm

/-- Both blocks of a call, behind the first call within. -/
structure Two (w : World) (cs ds : List Value) (w1 : World) : Prop where
  a : At w1 w.heap.size 39 cs
  b : At w1 (w.heap.size + 1) 39 ds
  below : Below w.heap.size w w1
  size : w.heap.size + 2 ≤ w1.heap.size
theorem Two.start (w : World) (cs : List Value) : Two w cs rfZero (W2 w cs) := ⟨two_a w cs, two_b w cs, two_below w cs, by rw [two_size]; omega⟩
theorem Two.call {w w1 w2 : World} {cs ds : List Value} (h : Two w cs ds w1) (hb : Below w1.heap.size w1 w2) : Two w cs ds w2 :=
  ⟨h.a.kept (Turned.of_below hb (Nat.le_refl _) NoBlock) (fun h => h), h.b.kept (Turned.of_below hb (Nat.le_refl _) NoBlock) (fun h => h), h.below.trans (hb.mono (by have := h.size; omega)), Nat.le_trans h.size hb.size⟩
theorem Two.put {w w1 : World} {cs cs' ds : List Value} (h : Two w cs ds w1) (i : Nat) (u : Value) (e : cs.set i u = cs') : Two w cs' ds (w1.setCell ⟨w.heap.size, i, none⟩ u) :=
  ⟨(h.a.put i u).as e, h.b.far (p := ⟨w.heap.size, i, none⟩) (by show w.heap.size + 1 ≠ w.heap.size; omega) u, h.below.setCell (p := ⟨w.heap.size, i, none⟩) (Nat.le_refl _) u, by simpa [World.setCell] using h.size⟩
theorem Two.st1 {w w1 w2 : World} {cs cs' ds : List Value} (h : Two w cs ds w1) (hA : At w2 w.heap.size 39 cs') (t : Turned (Just w.heap.size) w1 w2) : Two w cs' ds w2 :=
  ⟨hA, h.b.kept t (by unfold Just; omega), h.below.trans (t.below (fun i hi => by unfold Just at hi; omega) (by have := h.size; omega)), Nat.le_trans h.size t.size⟩
theorem Two.done {w w1 w2 : World} {cs ds : List Value} (h : Two w cs ds w1) (t : Turned (Just (w.heap.size + 1)) w1 w2) : Below w.heap.size w w2 :=
  h.below.trans (t.below (fun i hi => by unfold Just at hi; omega) (by have := h.size; omega))

/-- A block of another type was written. -/
theorem Two.other {w w1 w2 : World} {cs ds zs : List Value} (h : Two w cs ds w1) {P : Nat} (hP : At w1 P 35 zs) (t : Turned (Just P) w1 w2) (hB : w.heap.size ≤ P) : Two w cs ds w2 :=
  ⟨h.a.kept t (fun e => h.a.ne hP (by decide) e), h.b.kept t (fun e => h.b.ne hP (by decide) e), h.below.trans (t.below (fun i hi => by unfold Just at hi; omega) (by have := h.size; omega)), Nat.le_trans h.size t.size⟩
end Go.Proofs.Ytfckgfimmoinmaa
