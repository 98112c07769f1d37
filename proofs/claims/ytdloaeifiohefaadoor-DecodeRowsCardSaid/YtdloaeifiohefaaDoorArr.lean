/- Arrays of integers that come by value: read as a list of numbers, and read back. -/
import Derived.WalkKit
import Derived.ProofKit
import Derived.OpenShut
namespace Go.Proofs.YtdloaeifiohefaaDoor
open Go.ChangeShapes Go.WideShapes Go.ChangeAt Go.RowKit
variable {H : Type} {enc : TypeId × Value → H} {P : Program} {w : World} {base : Nat} {spare : Nat → Bool} {held : Bool}

theorem okWide_arr {r : Reach} {b0 n : Nat} {t e : TypeId} {v : Value} (ht : P.underlying t = some (.array n e)) (h : Value.okWide P w r b0 t v) : ∃ cs, v = .agg cs ∧ cs.size = P.cellsOf t := by
  simp only [Value.okWide, ht] at h
  obtain ⟨cs, h1, h2, _⟩ := h
  exact ⟨cs, h1, h2⟩

theorem flat_none {k : IntKind} (zs : List Int) : (zs.map fun z => ((.lit (.int k z), []) : DataW H × List MemPlace)).flatMap (·.2) = [] := by
  induction zs with
  | nil => rfl
  | cons z zs ih => simp

theorem list_two {α : Type} : ∀ {l : List α}, l.length = 2 → ∃ a b, l = [a, b]
  | [a, b], _ => ⟨a, b, rfl⟩

/-- An array of n integers by value. -/
theorem open_arr {r : Reach} {b0 n : Nat} {t e : TypeId} {k : IntKind} {v : Value} {d : DataW H} {p : List MemPlace} (ht : P.underlying t = some (.array n e)) (he : P.underlying e = some (.int k)) (hce : P.cellsOf e = 1) (hC : P.cellsOf t = n)
    (hv : Value.okWide P w r b0 t v) (h : DataW.Trod enc P w base spare held t v d p) :
    ∃ zs : List Int, zs.length = n ∧ v = .agg (zs.map (Value.int k)).toArray ∧ d = .agg (zs.map fun z => .lit (.int k z)) ∧ p = [] ∧ ∀ z ∈ zs, (Lit.int k z).wf = true := by
  obtain ⟨cs, rfl, hsz⟩ := okWide_arr ht hv
  obtain ⟨fuel, hf⟩ := h
  obtain ⟨xs, m, rfl, hx, hl, hxl, hi⟩ := DataW.trod_array ht hf
  simp only [Value.cells] at hl hi
  simp only [Prod.mk.injEq] at hx
  obtain ⟨rfl, rfl⟩ := hx
  -- each element
  have hlen : cs.toList.length = n := by rw [hl, hC]
  have key : ∀ i, i < n → ∃ z, cs.toList[i]? = some (.int k z) ∧ xs[i]? = some (.lit (.int k z), []) ∧ (Lit.int k z).wf = true := by
    intro i hin
    have g := hi i hin
    rw [hce, Nat.mul_one] at g
    have hx : ∃ y, xs[i]? = some y := by
      rw [List.getElem?_eq_getElem (by omega)]; exact ⟨_, rfl⟩
    obtain ⟨y, hy⟩ := hx
    rw [hy] at g
    obtain ⟨z, e1, e2, wz⟩ := DataW.trod_int he g
    refine ⟨z, ?_, by rw [hy, e2], wz⟩
    have : (List.drop i cs.toList).head? = some (.int k z) := by
      cases hd : List.drop i cs.toList with
      | nil => rw [hd] at e1; simp at e1
      | cons c l => rw [hd] at e1; simp at e1; simp [e1]
    rwa [List.head?_drop] at this
  obtain ⟨zs, hz⟩ : ∃ zs : List Int, zs = cs.toList.map (fun c => match c with | .int _ z => z | _ => 0) := ⟨_, rfl⟩
  have hzl : zs.length = n := by rw [hz, List.length_map, hlen]
  have hcs : cs.toList = zs.map (Value.int k) := by
    apply List.ext_getElem?
    intro i
    by_cases hin : i < n
    · obtain ⟨z, e1, _, _⟩ := key i hin
      rw [hz, List.getElem?_map, List.getElem?_map, e1]; rfl
    · rw [List.getElem?_eq_none (by omega), List.getElem?_eq_none (by rw [List.length_map]; omega)]
  have hxs : xs = zs.map fun z => (.lit (.int k z), []) := by
    apply List.ext_getElem?
    intro i
    by_cases hin : i < n
    · obtain ⟨z, e1, e2, _⟩ := key i hin
      rw [hz, List.getElem?_map, List.getElem?_map, e1, e2]; rfl
    · rw [List.getElem?_eq_none (by omega), List.getElem?_eq_none (by rw [List.length_map]; omega)]
  refine ⟨zs, hzl, ?_, ?_, ?_, ?_⟩
  · rw [← hcs]
  · rw [hxs, List.map_map]; rfl
  · rw [hxs]; exact flat_none zs
  · intro z hzm
    obtain ⟨i, hin, hget⟩ := List.getElem_of_mem hzm
    obtain ⟨z', e1, _, wz⟩ := key i (by omega)
    have : zs[i]? = some z' := by rw [hz, List.getElem?_map, e1]; rfl
    rw [List.getElem?_eq_getElem hin, hget] at this
    cases this; exact wz

theorem shut_arr {n : Nat} {t e : TypeId} {k : IntKind} {zs : List Int} (ht : P.underlying t = some (.array n e)) (he : P.underlying e = some (.int k)) (hce : P.cellsOf e = 1) (hC : P.cellsOf t = n)
    (hl : zs.length = n) (hw : ∀ z ∈ zs, (Lit.int k z).wf = true) :
    DataW.Trod enc P w base spare held t (.agg (zs.map (Value.int k)).toArray) (.agg (zs.map fun z => .lit (.int k z))) [] := by
  refine ⟨2, ?_⟩
  have e0 : (List.range n).mapM (fun i => DataW.trod enc P w base spare held 1 e ((((zs.map (Value.int k))).drop (i * P.cellsOf e)).take (P.cellsOf e))) = some (zs.map fun z => ((.lit (.int k z), []) : DataW H × List MemPlace)) := by
    rw [hce]
    subst hl
    have : ∀ (pre zs : List Int), (∀ z ∈ zs, (Lit.int k z).wf = true) → (List.range' pre.length zs.length).mapM (fun i => DataW.trod enc P w base spare held 1 e (((((pre ++ zs).map (Value.int k))).drop (i * 1)).take 1)) = some (zs.map fun z => ((.lit (.int k z), []) : DataW H × List MemPlace)) := by
      intro pre zs
      induction zs generalizing pre with
      | nil => intro _; rfl
      | cons z zs ih =>
        intro hw
        have h1 := ih (pre ++ [z]) (fun y hy => hw y (by simp [hy]))
        simp only [List.append_assoc, List.cons_append, List.nil_append, List.length_append, List.length_cons, List.length_nil] at h1
        simp only [List.length_cons, List.range'_succ, List.mapM_cons]
        have h2 : List.take 1 (List.drop (pre.length * 1) (List.map (Value.int k) (pre ++ z :: zs))) = [.int k z] := by
          simp
        rw [h2, trod_int_mk 0 he (hw z (by simp))]
        have h3 : pre.length + (0 + 1) = pre.length + 1 := by omega
        rw [h3] at h1
        rw [h1]; rfl
    have h := this [] zs hw
    simpa [List.range_eq_range'] using h
  unfold DataW.trod
  simp only [ht, Value.cells]
  have hlen : (zs.map (Value.int k)).length = P.cellsOf t := by rw [List.length_map, hl, hC]
  rw [if_pos hlen, e0]
  simp only [Option.map_some, List.map_map]
  rw [flat_none]; rfl
end Go.Proofs.YtdloaeifiohefaaDoor
