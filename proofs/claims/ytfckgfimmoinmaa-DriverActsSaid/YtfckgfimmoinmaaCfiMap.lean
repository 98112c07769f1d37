/- Small maps that a statement writes out: a map of memory that reads as a function. -/
import Derived.Test.YtfckgfimmoinmaaCfiS
namespace Go.Proofs.Ytfckgfimmoinmaa
open Go.RowKit Go.Maps Bm

def iOk (i : Int) : Prop := -9223372036854775808 ≤ i ∧ i ≤ 9223372036854775807
def uOk (i : Int) : Prop := 0 ≤ i ∧ i ≤ 4294967295
theorem wf_i {i : Int} (h : iOk i) : (Lit.int .i64 i).wf = true := by
  obtain ⟨a, b⟩ := h
  simp [Lit.wf, IntKind.signed, IntKind.bits, IntKind.min, IntKind.max]; omega
theorem wf_u {i : Int} (h : uOk i) : (Lit.int .u32 i).wf = true := by
  obtain ⟨a, b⟩ := h
  simp [Lit.wf, IntKind.signed, IntKind.bits, IntKind.min, IntKind.max]; omega

/-- Block b is a map of at most n entries that reads as g. -/
structure MapIs (w : World) (b n : Nat) (g : Int → Int) : Prop where
  ex : ∃ D : DataW Unit, w.ownsMap Try.prog 3 (plainElem Try.prog 33) b n D ∧ ∀ i : Int, iOk i → D.atKey (.int .i64 i) (.lit (.int .u32 0)) = .lit (.int .u32 (g i))
theorem MapIs.news (w : World) : MapIs (w.alloc (.map #[] 0)) w.heap.size 0 (fun _ => 0) :=
  ⟨.map [], World.ownsMap_made w _ _ _, fun _ _ => rfl⟩
theorem MapIs.look {w : World} {b n : Nat} {g : Int → Int} (h : MapIs w b n g) (i : Int) (hi : iOk i) :
    (Instr.lookup 93 (.map (some b)) (.int .i64 i) false).run Try.prog w = .ok (.int .u32 (g i)) w := by
  obtain ⟨D, h1, h3⟩ := h
  obtain ⟨c, hrun, hat, _⟩ := h1.lookup_int lawI Try.underlying93 Try.underlying33 (zeroU w) (keyOf_int_mk Try.underlying3 (wf_i hi))
  rw [h3 i hi] at hat
  simp only [DataW.lit.injEq, Lit.int.injEq, true_and] at hat
  rw [hrun, hat]
theorem MapIs.store {w : World} {b n : Nat} {g : Int → Int} (h : MapIs w b n g) (hn : n < 100) (i v : Int) (_hi : iOk i) (hv : uOk v) :
    ∃ w', (Instr.mapUpdate 93 (.map (some b)) (.int .i64 i) (.int .u32 v)).run Try.prog w = .ok () w' ∧ MapIs w' b (n + 1) (fun j => if j = i then v else g j) ∧ Turned (Just b) w w' := by
  obtain ⟨D, h1, h3⟩ := h
  obtain ⟨w', hrun, ho, ht⟩ := h1.store lawI Try.underlying93 (by unfold maxLen; omega) (keyOf_int_mk Try.underlying3 (wf_i _hi)) (plainElem_int (H := Unit) Try.underlying33 (q := .u32) (a := v) (wf_u hv))
  refine ⟨w', hrun, ⟨_, ho, ?_⟩, ?_⟩
  · intro j hj
    by_cases e : j = i
    · subst e
      rw [if_pos rfl, atKey_put_same h1.isMap (isKeyI _)]
    · rw [if_neg e, atKey_put_other (by intro e'; simp only [Lit.int.injEq, true_and] at e'; exact e e')]
      exact h3 j hj
  · exact (Turned.refl _ _).grown ht.grown (fun k hk _ => by simp only [Option.some.injEq] at hk; exact hk.symm)
theorem turned_new {w w' : World} {o : Obj} (t : Turned (Just w.heap.size) (w.alloc o) w') : Below w.heap.size w w' :=
  (((Turned.refl NoBlock w).alloc o).after t (fun i hi e => by unfold Just at e; omega)).below (fun _ h => h.elim) (Nat.le_refl _)

/-- The map of two words, and of four. -/
theorem map_two (w : World) (a0 v0 a1 v1 i : Int) (h0 : iOk a0) (h1 : iOk a1) (u0 : uOk v0) (u1 : uOk v1) (hi : iOk i) :
    ∃ w1 w2, (Instr.mapUpdate 93 (.map (some w.heap.size)) (.int .i64 a0) (.int .u32 v0)).run Try.prog (w.alloc (.map #[] 0)) = .ok () w1 ∧
      (Instr.mapUpdate 93 (.map (some w.heap.size)) (.int .i64 a1) (.int .u32 v1)).run Try.prog w1 = .ok () w2 ∧
      (Instr.lookup 93 (.map (some w.heap.size)) (.int .i64 i) false).run Try.prog w2 = .ok (.int .u32 (if i = a1 then v1 else if i = a0 then v0 else 0)) w2 ∧ Below w.heap.size w w2 := by
  obtain ⟨w1, r1, m1, t1⟩ := (MapIs.news w).store (by omega) a0 v0 h0 u0
  obtain ⟨w2, r2, m2, t2⟩ := m1.store (by omega) a1 v1 h1 u1
  exact ⟨w1, w2, r1, r2, m2.look i hi, turned_new (t1.trans t2)⟩
theorem map_four (w : World) (a0 v0 a1 v1 a2 v2 a3 v3 i : Int) (h0 : iOk a0) (h1 : iOk a1) (h2 : iOk a2) (h3 : iOk a3) (u0 : uOk v0) (u1 : uOk v1) (u2 : uOk v2) (u3 : uOk v3) (hi : iOk i) :
    ∃ w1 w2 w3 w4, (Instr.mapUpdate 93 (.map (some w.heap.size)) (.int .i64 a0) (.int .u32 v0)).run Try.prog (w.alloc (.map #[] 0)) = .ok () w1 ∧
      (Instr.mapUpdate 93 (.map (some w.heap.size)) (.int .i64 a1) (.int .u32 v1)).run Try.prog w1 = .ok () w2 ∧
      (Instr.mapUpdate 93 (.map (some w.heap.size)) (.int .i64 a2) (.int .u32 v2)).run Try.prog w2 = .ok () w3 ∧
      (Instr.mapUpdate 93 (.map (some w.heap.size)) (.int .i64 a3) (.int .u32 v3)).run Try.prog w3 = .ok () w4 ∧
      (Instr.lookup 93 (.map (some w.heap.size)) (.int .i64 i) false).run Try.prog w4 = .ok (.int .u32 (if i = a3 then v3 else if i = a2 then v2 else if i = a1 then v1 else if i = a0 then v0 else 0)) w4 ∧ Below w.heap.size w w4 := by
  obtain ⟨w1, r1, m1, t1⟩ := (MapIs.news w).store (by omega) a0 v0 h0 u0
  obtain ⟨w2, r2, m2, t2⟩ := m1.store (by omega) a1 v1 h1 u1
  obtain ⟨w3, r3, m3, t3⟩ := m2.store (by omega) a2 v2 h2 u2
  obtain ⟨w4, r4, m4, t4⟩ := m3.store (by omega) a3 v3 h3 u3
  exact ⟨w1, w2, w3, w4, r1, r2, r3, r4, m4.look i hi, turned_new (((t1.trans t2).trans t3).trans t4)⟩
end Go.Proofs.Ytfckgfimmoinmaa
