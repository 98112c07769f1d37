/- A map of numbers to numbers that a statement makes (layer latest): a map of memory that reads as a function. -/
import Derived.Test.YtfpfcmgcfbkolaaLatHeld
import Derived.Maps.OwnSet
namespace Go.Proofs.Ytfpfcmgcfbkolaa
open Go.RowKit Go.Maps Bm

theorem lawUI : Keyed Try.prog 34 := int_keyed Try.underlying34
theorem zeroUI (w : World) : (zeroValue 3).run Try.prog w = .ok (.int .i64 0) w := by kernel_rfl
theorem wfUI (s : BitVec 32) : (Lit.int .u32 (U s)).wf = true := by
  have h0 := U_nonneg s
  have h1 := U_lt s
  simp [Lit.wf, IntKind.signed, IntKind.bits, IntKind.min, IntKind.max]; omega
theorem wfII {i : Int} (h : 0 ≤ i ∧ i ≤ 1) : (Lit.int .i64 i).wf = true := by
  obtain ⟨a, b⟩ := h
  simp [Lit.wf, IntKind.signed, IntKind.bits, IntKind.min, IntKind.max]; omega
theorem isKeyUI (i : Int) : WideAt.IsKeyLit (.int .u32 i) := by simp [WideAt.IsKeyLit]
/-- Block b is a map of at most n entries that reads as g. -/
structure MapUI (w : World) (b n : Nat) (g : BitVec 32 → Int) : Prop where
  ex : ∃ D : DataW Unit, w.ownsMap Try.prog 34 (plainElem Try.prog 3) b n D ∧ ∀ s : BitVec 32, D.atKey (.int .u32 (U s)) (.lit (.int .i64 0)) = .lit (.int .i64 (g s))
theorem MapUI.news (w : World) : MapUI (w.alloc (.map #[] 0)) w.heap.size 0 (fun _ => 0) :=
  ⟨.map [], World.ownsMap_made w _ _ _, fun _ => rfl⟩
theorem MapUI.look {w : World} {b n : Nat} {g : BitVec 32 → Int} (h : MapUI w b n g) (s : BitVec 32) :
    (Instr.lookup 57 (.map (some b)) (.int .u32 (U s)) false).run Try.prog w = .ok (.int .i64 (g s)) w := by
  obtain ⟨D, h1, h3⟩ := h
  obtain ⟨c, hrun, hat, _⟩ := h1.lookup_int lawUI Try.underlying57 Try.underlying3 (zeroUI w) (keyOf_int_mk Try.underlying34 (wfUI s))
  rw [h3 s] at hat
  simp only [DataW.lit.injEq, Lit.int.injEq, true_and] at hat
  rw [hrun, hat]
theorem MapUI.store {w : World} {b n : Nat} {g : BitVec 32 → Int} (h : MapUI w b n g) (hn : n < 1000) (s : BitVec 32) (v : Int) (hv : 0 ≤ v ∧ v ≤ 1) :
    ∃ w', (Instr.mapUpdate 57 (.map (some b)) (.int .u32 (U s)) (.int .i64 v)).run Try.prog w = .ok () w' ∧ MapUI w' b (n + 1) (fun j => if j = s then v else g j) ∧ Turned (Just b) w w' := by
  obtain ⟨D, h1, h3⟩ := h
  obtain ⟨w', hrun, ho, ht⟩ := h1.store lawUI Try.underlying57 (by unfold maxLen; omega) (keyOf_int_mk Try.underlying34 (wfUI s)) (plainElem_int (H := Unit) Try.underlying3 (q := .i64) (a := v) (wfII hv))
  refine ⟨w', hrun, ⟨_, ho, ?_⟩, ?_⟩
  · intro j
    by_cases e : j = s
    · subst e
      rw [if_pos rfl, atKey_put_same h1.isMap (isKeyUI _)]
    · rw [if_neg e, atKey_put_other (by intro e'; simp only [Lit.int.injEq, true_and] at e'; exact e (U_inj e'))]
      exact h3 j
  · exact (Turned.refl _ _).grown ht.grown (fun k hk _ => by simp only [Option.some.injEq] at hk; exact hk.symm)
theorem MapUI.kept {w w' : World} {b n : Nat} {g : BitVec 32 → Int} (h : MapUI w b n g) (hb : w'.heap[b]? = w.heap[b]?) : MapUI w' b n g := by
  obtain ⟨D, ⟨es, clock, h1, h2⟩, h3⟩ := h
  exact ⟨D, ⟨es, clock, hb.trans h1, h2⟩, h3⟩
theorem MapUI.map {w : World} {b n : Nat} {g : BitVec 32 → Int} (h : MapUI w b n g) : b < w.heap.size ∧ ∀ o, w.cell? ⟨b, o, none⟩ = none := by
  obtain ⟨D, ⟨es, clock, h1, _⟩, _⟩ := h
  refine ⟨(Array.getElem?_eq_some_iff.1 h1).1, fun o => ?_⟩
  unfold World.cell?
  simp [h1]
theorem MapUI.below {w w' : World} {b n : Nat} {g : BitVec 32 → Int} (h : MapUI w b n g) (hB : Below w.heap.size w w') : MapUI w' b n g := h.kept (hB.block b h.map.1)
section
variable {ops : Array Oper} {rest : List Oper} {o : Oper} {a : Go.Act} {w : World} {Q : Exit → Go.Act → World → Prop} {b n : Nat} {g : BitVec 32 → Int}
theorem wpList_lookUI (m x : Operand) (s : BitVec 32) (v : Int) (hgd : o.guard = none) (ho : o.op = .lookup 57 m x false) (hm : a.eval m = .map (some b)) (hx : a.eval x = .int .u32 (U s)) (h : MapUI w b n g) (hv : g s = v)
    (hK : wpList Try.prog ops Q rest (a.put o.dst (.int .i64 v)) w) : wpList Try.prog ops Q (o :: rest) a w :=
  wpList_plain hgd fun K hK' => by
    unfold Oper.wp
    simp [execOp, ho, hm, hx, h.look s, hv, Result.andThen]
    exact hK' _ _ hK
theorem wpList_setUI (m x y : Operand) (s : BitVec 32) (v : Int) (hgd : o.guard = none) (ho : o.op = .mapUpdate 57 m x y) (hm : a.eval m = .map (some b)) (hx : a.eval x = .int .u32 (U s)) (hy : a.eval y = .int .i64 v) (h : MapUI w b n g) (hn : n < 1000) (hv : 0 ≤ v ∧ v ≤ 1)
    (hK : ∀ w', MapUI w' b (n + 1) (fun j => if j = s then v else g j) → Turned (Just b) w w' → wpList Try.prog ops Q rest (a.put o.dst undef) w') : wpList Try.prog ops Q (o :: rest) a w :=
  wpList_plain hgd fun K hK' => by
    obtain ⟨w', hrun, r1, r2⟩ := h.store hn s v hv
    unfold Oper.wp
    simp [execOp, ho, hm, hx, hy, hrun, Result.andThen]
    exact hK' _ _ (hK w' r1 r2)
end

/-- Of how many of the first j places a sector is: one or none. -/
def hadG (xs : List PlM) (j : Nat) (s : BitVec 32) : Int := if (xs.take j).any (fun x => decide (x.p.s = s)) = true then 1 else 0
theorem hadG_zero (xs : List PlM) : hadG xs 0 = fun _ => 0 := by funext v; simp [hadG]
theorem hadG_succ {xs : List PlM} {j : Nat} (h : j < xs.length) : (fun v => if v = (plN xs j).p.s then 1 else hadG xs j v) = hadG xs (j + 1) := by
  funext v
  unfold hadG
  rw [List.take_add_one, plN_get h, List.any_append]
  by_cases e : v = (plN xs j).p.s
  · rw [if_pos e, if_pos (by simp [e])]
  · rw [if_neg e]
    have : decide ((plN xs j).p.s = v) = false := decide_eq_false (Ne.symm e)
    simp [this]
theorem hadG_self {xs : List PlM} {j : Nat} (h : j < xs.length) : hadG xs (j + 1) (plN xs j).p.s = 1 := by
  rw [← hadG_succ h]
  simp
theorem hadG_new {xs : List PlM} {j : Nat} (h : j < xs.length) (hp : xs.Pairwise fun a b => a.p.s ≠ b.p.s) : hadG xs j (plN xs j).p.s = 0 := by
  unfold hadG
  rw [if_neg]
  intro hx
  obtain ⟨x, hx, e⟩ := List.any_eq_true.1 hx
  have e := of_decide_eq_true e
  obtain ⟨i, hi, rfl⟩ := List.getElem_of_mem hx
  rw [List.length_take] at hi
  rw [List.getElem_take] at e
  rw [List.pairwise_iff_getElem] at hp
  refine hp i j (by omega) h (by omega) (e.trans ?_)
  unfold plN
  rw [List.getD_eq_getElem?_getD, List.getElem?_eq_getElem h]
  rfl
theorem hadG_all (xs : List PlM) (s : BitVec 32) : (hadG xs xs.length s = 0 ∧ ∀ z ∈ xs, z.p.s ≠ s) ∨ (hadG xs xs.length s = 1 ∧ ¬ ∀ z ∈ xs, z.p.s ≠ s) := by
  unfold hadG
  rw [List.take_length]
  by_cases h : xs.any (fun x => decide (x.p.s = s)) = true
  · rw [if_pos h]
    refine .inr ⟨rfl, fun hn => ?_⟩
    obtain ⟨x, hx, e⟩ := List.any_eq_true.1 h
    exact hn x hx (of_decide_eq_true e)
  · rw [if_neg h]
    exact .inl ⟨rfl, fun z hz e => h (List.any_eq_true.2 ⟨z, hz, decide_eq_true e⟩)⟩
end Go.Proofs.Ytfpfcmgcfbkolaa
