/- What arguments that are pages, and arrays of a few integers, read as. -/
import Derived.Test.YtfpfcmgcfbkolaaOpens
import Derived.Test.YtfpfcmgcfbkolaaArr
import Derived.Test.YtfpfcmgcfbkolaaPageMath
namespace Go.Proofs.Ytfpfcmgcfbkolaa
open Go.ChangeShapes Go.WideShapes Go.ChangeAt Go.RowKit Bm

section
variable {H : Type} {enc : TypeId × Value → H} {W : World}

theorem list_seven {α : Type} : ∀ {l : List α}, l.length = 7 → ∃ a b c d e f g, l = [a, b, c, d, e, f, g]
  | [a, b, c, d, e, f, g], _ => ⟨a, b, c, d, e, f, g, rfl⟩
/-- One cell that is an integer. -/
theorem cell_int {k : IntKind} {f : TypeId} {fuel : Nat} {cs : List Value} {y : Option (DataW H × List MemPlace)} {c : Value} (hf : Try.prog.underlying f = some (.int k)) (hc : cs = [c]) (h : DataW.trod enc Try.prog W 0 (fun _ => true) true fuel f cs = y) (hy : y.isSome = true) :
    ∃ z, c = .int k z ∧ (Lit.int k z).wf = true := by
  obtain ⟨x, rfl⟩ := Option.isSome_iff_exists.1 hy
  rw [hc] at h
  obtain ⟨z, e1, _, wz⟩ := DataW.trod_int hf h
  simp only [List.cons.injEq, and_true] at e1
  exact ⟨z, e1, wz⟩
theorem cell_word {fuel : Nat} {cs : List Value} {y : Option (DataW H × List MemPlace)} {c : Value} (hc : cs = [c]) (h : DataW.trod enc Try.prog W 0 (fun _ => true) true fuel 34 cs = y) (hy : y.isSome = true) : ∃ x : BitVec 32, c = .int .u32 (U x) := by
  obtain ⟨z, rfl, wz⟩ := cell_int Try.underlying34 hc h hy
  have b := bounds_u32 wz
  obtain ⟨x, rfl⟩ := U_of b.1 (by omega)
  exact ⟨x, rfl⟩
theorem cell_bool {fuel : Nat} {cs : List Value} {y : Option (DataW H × List MemPlace)} {c : Value} (hc : cs = [c]) (h : DataW.trod enc Try.prog W 0 (fun _ => true) true fuel 4 cs = y) (hy : y.isSome = true) : ∃ b : Bool, c = .bool b := by
  obtain ⟨x, rfl⟩ := Option.isSome_iff_exists.1 hy
  rw [hc] at h
  obtain ⟨b, e1, _⟩ := DataW.trod_bool Try.underlying4 h
  simp only [List.cons.injEq, and_true] at e1
  exact ⟨b, e1⟩

set_option maxRecDepth 100000 in
theorem open_Page {base : Nat} {v : Value} {d : DataW H} {p : List MemPlace} (hval : Value.okWide Try.prog W .any base 46 v) (h : DataW.Trod enc Try.prog W 0 (fun _ => true) true 46 v d p) :
    ∃ pg : PageM, v = pgV pg := by
  obtain ⟨cs, rfl, hsz⟩ : ∃ cs, v = .agg cs ∧ cs.size = Try.prog.cellsOf 46 := by
    simp only [Value.okWide, Try.underlying46] at hval
    obtain ⟨cs, h1, h2, _⟩ := hval
    exact ⟨cs, h1, h2⟩
  have hC : Try.prog.cellsOf 46 = 7 := by kernel_rfl
  obtain ⟨fuel, hf⟩ := h
  obtain ⟨xs, n, _, _, _, hxl, hi⟩ := DataW.trod_struct Try.underlying46 hf
  simp only [Value.cells] at hi
  rw [hC] at hsz
  obtain ⟨c0, c1, c2, c3, c4, c5, c6, hcs⟩ := list_seven (l := cs.toList) (by simpa using hsz)
  rw [hcs] at hi
  have xl : xs.length = 4 := hxl
  have one0 : Try.prog.cellsOf 34 = 1 := by kernel_rfl
  have one1 : Try.prog.cellsOf 4 = 1 := by kernel_rfl
  have four : Try.prog.cellsOf 38 = 4 := by kernel_rfl
  have h0 := hi 0 _ rfl
  have h1 := hi 1 _ rfl
  have h2 := hi 2 _ rfl
  have h3 := hi 3 _ rfl
  simp only [List.getElem_toArray, List.getElem_cons_zero, List.getElem_cons_succ, one0, one1, four] at h0 h1 h2 h3
  obtain ⟨s, rfl⟩ := cell_word rfl h0 (by simp [xl])
  obtain ⟨q, rfl⟩ := cell_word rfl h1 (by simp [xl])
  obtain ⟨g, rfl⟩ := cell_bool rfl h2 (by simp [xl])
  obtain ⟨y, hy⟩ : ∃ y, xs[3]? = some y := ⟨_, List.getElem?_eq_getElem (by omega)⟩
  rw [hy] at h3
  obtain ⟨ys, m, _, _, _, hyl, hj⟩ := DataW.trod_array Try.underlying38 h3
  have k0 := hj 0 (by omega)
  have k1 := hj 1 (by omega)
  have k2 := hj 2 (by omega)
  have k3 := hj 3 (by omega)
  simp only [one0] at k0 k1 k2 k3
  obtain ⟨d0, rfl⟩ := cell_word rfl k0 (by simp [hyl])
  obtain ⟨d1, rfl⟩ := cell_word rfl k1 (by simp [hyl])
  obtain ⟨d2, rfl⟩ := cell_word rfl k2 (by simp [hyl])
  obtain ⟨d3, rfl⟩ := cell_word rfl k3 (by simp [hyl])
  refine ⟨⟨s, q, g, d0, d1, d2, d3⟩, ?_⟩
  have e : cs = cs.toList.toArray := by simp
  rw [e, hcs]
  rfl
end
end Go.Proofs.Ytfpfcmgcfbkolaa
