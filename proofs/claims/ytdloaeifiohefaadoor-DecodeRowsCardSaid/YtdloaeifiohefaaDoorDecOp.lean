/- What arguments that are ops, and three bytes, read as (layer decode). -/
import Derived.Test.YtdloaeifiohefaaDoorArr
import Derived.Test.YtdloaeifiohefaaDoorDec3
import Derived.OpenShut
namespace Go.Proofs.YtdloaeifiohefaaDoor
open Go.ChangeShapes Go.WideShapes Go.ChangeAt Go.RowKit Bm

section
variable {H : Type} {enc : TypeId × Value → H} {W : World}
theorem list_three {α : Type} : ∀ {l : List α}, l.length = 3 → ∃ a b c, l = [a, b, c]
  | [a, b, c], _ => ⟨a, b, c, rfl⟩
theorem list_five {α : Type} : ∀ {l : List α}, l.length = 5 → ∃ a b c d e, l = [a, b, c, d, e]
  | [a, b, c, d, e], _ => ⟨a, b, c, d, e, rfl⟩
theorem cell_int11 {k : IntKind} {f : TypeId} {fuel : Nat} {cs : List Value} {y : Option (DataW H × List MemPlace)} {c : Value} (hf : Tryd.prog.underlying f = some (.int k)) (hc : cs = [c]) (h : DataW.trod enc Tryd.prog W 0 (fun _ => true) true fuel f cs = y) (hy : y.isSome = true) :
    ∃ z, c = .int k z ∧ (Lit.int k z).wf = true := by
  obtain ⟨x, rfl⟩ := Option.isSome_iff_exists.1 hy
  rw [hc] at h
  obtain ⟨z, e1, _, wz⟩ := DataW.trod_int hf h
  simp only [List.cons.injEq, and_true] at e1
  exact ⟨z, e1, wz⟩
set_option maxRecDepth 100000 in
theorem open_Op11 {base : Nat} {v : Value} {d : DataW H} {p : List MemPlace} (hval : Value.okWide Tryd.prog W .any base 28 v) (h : DataW.Trod enc Tryd.prog W 0 (fun _ => true) true 28 v d p) :
    ∃ (a b c e : Int) (i : BitVec 32), v = .agg #[.int .i64 a, .int .i64 b, .int .i64 c, .int .i64 e, .int .u32 (U i)] := by
  obtain ⟨cs, rfl, hsz⟩ : ∃ cs, v = .agg cs ∧ cs.size = Tryd.prog.cellsOf 28 := by
    simp only [Value.okWide, Tryd.underlying28] at hval
    obtain ⟨cs, h1, h2, _⟩ := hval
    exact ⟨cs, h1, h2⟩
  have hC : Tryd.prog.cellsOf 28 = 5 := by kernel_rfl
  obtain ⟨fuel, hf⟩ := h
  obtain ⟨xs, n, _, _, _, hxl, hi⟩ := DataW.trod_struct Tryd.underlying28 hf
  simp only [Value.cells] at hi
  rw [hC] at hsz
  obtain ⟨c0, c1, c2, c3, c4, hcs⟩ := list_five (l := cs.toList) (by simpa using hsz)
  rw [hcs] at hi
  have xl : xs.length = 5 := hxl
  have one0 : Tryd.prog.cellsOf 22 = 1 := by kernel_rfl
  have one1 : Tryd.prog.cellsOf 3 = 1 := by kernel_rfl
  have h0 := hi 0 _ rfl
  have h1 := hi 1 _ rfl
  have h2 := hi 2 _ rfl
  have h3 := hi 3 _ rfl
  have h4 := hi 4 _ rfl
  simp only [List.getElem_toArray, List.getElem_cons_zero, List.getElem_cons_succ, one0, one1] at h0 h1 h2 h3 h4
  obtain ⟨a, rfl, _⟩ := cell_int11 Tryd.underlying3 rfl h0 (by simp [xl])
  obtain ⟨b, rfl, _⟩ := cell_int11 Tryd.underlying3 rfl h1 (by simp [xl])
  obtain ⟨c, rfl, _⟩ := cell_int11 Tryd.underlying3 rfl h2 (by simp [xl])
  obtain ⟨e, rfl, _⟩ := cell_int11 Tryd.underlying3 rfl h3 (by simp [xl])
  obtain ⟨z, rfl, wz⟩ := cell_int11 Tryd.underlying22 rfl h4 (by simp [xl])
  have bd := bounds_u32 wz
  obtain ⟨i, rfl⟩ := U_of bd.1 (by omega)
  refine ⟨a, b, c, e, i, ?_⟩
  have ec : cs = cs.toList.toArray := by simp
  rw [ec, hcs]
end
end Go.Proofs.YtdloaeifiohefaaDoor
