/- Structs whose fields are numbers, compared by value: any such struct. -/
import Derived.Test.YtedpeojgpnnddaaBitsMem
import Derived.Laws.StructEq
namespace Go.Proofs.Ytedpeojgpnnddaa
open Go.RowKit Bm

theorem part_int {P : Program} {E : TypeId} {k : IntKind} (hE : P.underlying E = some (.int k)) (w : World) (cs : Array Value) (i : Nat) (v : Value) (h : cs[i]? = some v) : (part E cs i).run P w = .ok v w := by
  simp [part, isAgg, run_underlying hE, h]
theorem eqFields_ints {P : Program} (d : Nat) (xs ys : Array Value) (va vb : Nat → Int) (kd : Nat → IntKind) (w : World) : ∀ fs : List Field,
    (∀ f ∈ fs, f.name ≠ "_" ∧ P.underlying f.type = some (.int (kd f.offset)) ∧ xs[f.offset]? = some (.int (kd f.offset) (va f.offset)) ∧ ys[f.offset]? = some (.int (kd f.offset) (vb f.offset))) →
    (Op.eqFields (d + 1) xs ys fs).run P w = .ok ((fs.map (·.offset)).all fun o => va o == vb o) w
  | [], _ => by simp [Op.eqFields]
  | f :: fs, h => by
    obtain ⟨h1, h2, h3, h4⟩ := h f (by simp)
    have ih := eqFields_ints d xs ys va vb kd w fs (fun g hg => h g (by simp [hg]))
    simp only [Op.eqFields, h1, ne_eq, not_false_eq_true, if_true, Sem.run_bind, part_int h2 w _ _ _ h3, part_int h2 w _ _ _ h4, Result.andThen_ok, run_equalIn_int w d _ _ _ _ _ h2, List.map_cons, List.all_cons]
    cases hb : va f.offset == vb f.offset
    · simp
    · simpa using ih
/-- Two structs are compared: their fields, one after the other, are numbers of the kinds kd. -/
theorem run_eqS {P : Program} (d : Nat) {t : TypeId} {n : Nat} (xs ys : Array Value) (va vb : Nat → Int) (kd : Nat → IntKind) (w : World) (ht : P.underlying t = some (.struct (P.fieldsOf t))) (hp : P.stoodInHeld t = false)
    (ho : (P.fieldsOf t).toList.map (·.offset) = List.range n) (hn : (P.fieldsOf t).toList.all (fun f => f.name != "_") = true) (hk : (P.fieldsOf t).toList.all (fun f => (P.underlying f.type).any fun u => match u with | .int k => decide (k = kd f.offset) | _ => false) = true)
    (hx : ∀ i, i < n → xs[i]? = some (.int (kd i) (va i))) (hy : ∀ i, i < n → ys[i]? = some (.int (kd i) (vb i))) :
    (Op.equalIn (d + 2) t (.agg xs) (.agg ys)).run P w = .ok ((List.range n).all fun o => va o == vb o) w := by
  rw [run_equalIn_struct w (d + 1) t xs ys ht hp, eqFields_ints d xs ys va vb kd w, ho]
  intro f hf
  have hlt : f.offset < n := by
    have : f.offset ∈ (P.fieldsOf t).toList.map (·.offset) := List.mem_map.2 ⟨f, hf, rfl⟩
    rw [ho] at this
    exact List.mem_range.1 this
  refine ⟨?_, ?_, hx _ hlt, hy _ hlt⟩
  · have := List.all_eq_true.1 hn f hf
    simpa using this
  · have := List.all_eq_true.1 hk f hf
    cases hu : P.underlying f.type with
    | none => rw [hu] at this; simp at this
    | some u =>
      rw [hu] at this
      cases u <;> simp at this
      rw [this]
end Go.Proofs.Ytedpeojgpnnddaa
