/- What the arguments of layer model's statements read as. -/
import Derived.Test.YtakohcdopbckkaaMod1
import Derived.Test.YtakohcdopbckkaaKdOp
namespace Go.Proofs.Ytakohcdopbckkaa
open Go.ChangeShapes Go.WideShapes Go.ChangeAt Go.RowKit Bm

section
variable {H : Type} {enc : TypeId × Value → H} {W : World}
set_option maxRecDepth 100000 in
theorem trod_v4 {fuel : Nat} {cs : List Value} {y : DataW H × List MemPlace} (hl : cs.length = 4) (h : DataW.trod enc Try.prog W 0 (fun _ => true) true fuel 24 cs = some y) : ∃ v, cs = v4C v := by
  obtain ⟨ys, m, _, _, _, hyl, hj⟩ := DataW.trod_array Try.underlying24 h
  have one0 : Try.prog.cellsOf 23 = 1 := by kernel_rfl
  match cs, hl with
  | [c0, c1, c2, c3], _ =>
    have k0 := hj 0 (by omega)
    have k1 := hj 1 (by omega)
    have k2 := hj 2 (by omega)
    have k3 := hj 3 (by omega)
    simp only [one0] at k0 k1 k2 k3
    obtain ⟨d0, rfl⟩ := cut_word Try.underlying23 rfl k0 (by simp [hyl])
    obtain ⟨d1, rfl⟩ := cut_word Try.underlying23 rfl k1 (by simp [hyl])
    obtain ⟨d2, rfl⟩ := cut_word Try.underlying23 rfl k2 (by simp [hyl])
    obtain ⟨d3, rfl⟩ := cut_word Try.underlying23 rfl k3 (by simp [hyl])
    exact ⟨⟨d0, d1, d2, d3⟩, rfl⟩
set_option maxRecDepth 100000 in
theorem trod_v4s {fuel : Nat} {c : Value} {y : DataW H × List MemPlace} (h : DataW.trod enc Try.prog W 0 (fun _ => true) true fuel 22 [c] = some y) : ∃ A n cap xs, c = .slice A n cap ∧ v4K.Reads W A n cap xs := by
  obtain ⟨A, n, cap, xs, e, hr, _⟩ := open_rows v4K (fun _ => True) Try.underlying22 (by kernel_rfl) (fun fuel cs y hl h => by
    obtain ⟨v, e⟩ := trod_v4 hl h
    exact ⟨v, trivial, e⟩) h
  exact ⟨A, n, cap, xs, e, hr⟩
theorem open_V4s {base : Nat} {v : Value} {d : DataW H} {p : List MemPlace} (hval : Value.okWide Try.prog W .any base 22 v) (h : DataW.Trod enc Try.prog W 0 (fun _ => true) true 22 v d p) : ∃ A cap xs, v = .slice A xs.length cap ∧ v4K.Reads W A xs.length cap xs := by
  obtain ⟨A, n, cap, rfl⟩ := okWide_slice Try.underlying22 hval
  obtain ⟨fuel, hf⟩ := h
  obtain ⟨A', n', cap', xs, e, hr⟩ := trod_v4s hf
  cases e
  obtain rfl := hr.len
  exact ⟨A, cap, xs, rfl, hr⟩
theorem agg_of {t : TypeId} {v : Value} {base : Nat} {fs : Array Field} (hu : Try.prog.underlying t = some (.struct fs)) (hval : Value.okWide Try.prog W .any base t v) : ∃ cs, v = .agg cs ∧ cs.size = Try.prog.cellsOf t := by
  simp only [Value.okWide, hu] at hval
  obtain ⟨cs, h1, h2, _⟩ := hval
  exact ⟨cs, h1, h2⟩
set_option maxRecDepth 100000 in
theorem open_V4 {base : Nat} {v : Value} {d : DataW H} {p : List MemPlace} (hval : Value.okWide Try.prog W .any base 24 v) (h : DataW.Trod enc Try.prog W 0 (fun _ => true) true 24 v d p) : ∃ x, v = .agg (v4C x).toArray := by
  obtain ⟨cs, rfl, hsz⟩ : ∃ cs, v = .agg cs ∧ cs.size = Try.prog.cellsOf 24 := by
    simp only [Value.okWide, Try.underlying24] at hval
    obtain ⟨cs, h1, h2, _⟩ := hval
    exact ⟨cs, h1, h2⟩
  have hC : Try.prog.cellsOf 24 = 4 := by kernel_rfl
  obtain ⟨fuel, hf⟩ := h
  obtain ⟨x, e⟩ := trod_v4 (by simpa [Value.cells, hC] using hsz) hf
  simp only [Value.cells] at e
  exact ⟨x, by rw [← e]⟩
set_option maxRecDepth 100000 in
theorem open_State {base : Nat} {v : Value} {d : DataW H} {p : List MemPlace} (hval : Value.okWide Try.prog W .any base 26 v) (h : DataW.Trod enc Try.prog W 0 (fun _ => true) true 26 v d p) :
    ∃ A cap s, v = .agg (stC (.slice A s.sure.length cap) s).toArray ∧ v4K.Reads W A s.sure.length cap s.sure ∧ (Lit.int .i64 s.at_).wf = true := by
  obtain ⟨cs, rfl, hsz⟩ := agg_of Try.underlying26 hval
  have hC : Try.prog.cellsOf 26 = 7 := by kernel_rfl
  obtain ⟨fuel, hf⟩ := h
  obtain ⟨xs, n, _, _, _, hxl, hi⟩ := DataW.trod_struct Try.underlying26 hf
  simp only [Value.cells] at hi
  rw [hC] at hsz
  obtain ⟨c0, c1, c2, c3, c4, c5, c6, hcs⟩ : ∃ c0 c1 c2 c3 c4 c5 c6, cs.toList = [c0, c1, c2, c3, c4, c5, c6] := by
    have hl : cs.toList.length = 7 := by simpa using hsz
    match hh : cs.toList, hl with
    | [c0, c1, c2, c3, c4, c5, c6], _ => exact ⟨c0, c1, c2, c3, c4, c5, c6, rfl⟩
  rw [hcs] at hi
  have xl : xs.length = 4 := hxl
  have one0 : Try.prog.cellsOf 22 = 1 := by kernel_rfl
  have one1 : Try.prog.cellsOf 4 = 1 := by kernel_rfl
  have one2 : Try.prog.cellsOf 3 = 1 := by kernel_rfl
  have four : Try.prog.cellsOf 24 = 4 := by kernel_rfl
  have h0 := hi 0 _ rfl
  have h1 := hi 1 _ rfl
  have h2 := hi 2 _ rfl
  have h3 := hi 3 _ rfl
  simp only [List.getElem_toArray, List.getElem_cons_zero, List.getElem_cons_succ, one0, one1, one2, four] at h0 h1 h2 h3
  rw [List.getElem?_eq_getElem (by omega)] at h0 h3
  obtain ⟨A, k, cap, vs, rfl, hr⟩ := trod_v4s h0
  obtain ⟨g, rfl⟩ := cut_bool Try.underlying4 rfl h1 (by simp [xl])
  obtain ⟨z, rfl, wz⟩ := cut_int Try.underlying3 rfl h2 (by simp [xl])
  obtain ⟨x, ex⟩ := trod_v4 (cs := [c3, c4, c5, c6]) rfl h3
  obtain rfl := hr.len
  refine ⟨A, cap, ⟨vs, g, z, x⟩, ?_, hr, wz⟩
  have e : cs = cs.toList.toArray := by simp
  rw [e, hcs]
  show Value.agg ([_, _, _] ++ [c3, c4, c5, c6]).toArray = _
  rw [ex]
  rfl
set_option maxRecDepth 100000 in
theorem open_V4x3 {base : Nat} {v : Value} {d : DataW H} {p : List MemPlace} (hval : Value.okWide Try.prog W .any base 42 v) (h : DataW.Trod enc Try.prog W 0 (fun _ => true) true 42 v d p) : ∃ x y z, v = .agg (v4C x ++ (v4C y ++ v4C z)).toArray := by
  obtain ⟨cs, rfl, hsz⟩ : ∃ cs, v = .agg cs ∧ cs.size = Try.prog.cellsOf 42 := by
    simp only [Value.okWide, Try.underlying42] at hval
    obtain ⟨cs, h1, h2, _⟩ := hval
    exact ⟨cs, h1, h2⟩
  have hC : Try.prog.cellsOf 42 = 12 := by kernel_rfl
  have four : Try.prog.cellsOf 24 = 4 := by kernel_rfl
  rw [hC] at hsz
  obtain ⟨fuel, hf⟩ := h
  obtain ⟨ys, m, _, _, _, hyl, hj⟩ := DataW.trod_array Try.underlying42 hf
  simp only [Value.cells] at hj
  obtain ⟨l, rfl⟩ : ∃ l : List Value, cs = l.toArray := ⟨cs.toList, by simp⟩
  have hl : l.length = 12 := by simpa using hsz
  have k0 := hj 0 (by omega)
  have k1 := hj 1 (by omega)
  have k2 := hj 2 (by omega)
  rw [List.getElem?_eq_getElem (by omega)] at k0 k1 k2
  simp only [four] at k0 k1 k2
  obtain ⟨x, ex⟩ := trod_v4 (by simp; omega) k0
  obtain ⟨y, ey⟩ := trod_v4 (by simp; omega) k1
  obtain ⟨z, ez⟩ := trod_v4 (by simp; omega) k2
  refine ⟨x, y, z, ?_⟩
  rw [← ex, ← ey, ← ez]
  congr 1
  apply congrArg
  simp only [Nat.zero_mul, List.drop_zero, Nat.one_mul]
  have h3 : (l.drop (2 * 4)).take 4 = l.drop 8 := List.take_of_length_le (by rw [List.length_drop]; omega)
  rw [h3, show l.drop 8 = (l.drop 4).drop 4 by rw [List.drop_drop], List.take_append_drop, List.take_append_drop]
theorem open_U16s {base : Nat} {v : Value} {d : DataW H} {p : List MemPlace} (hval : Value.okWide Try.prog W .any base 46 v) (h : DataW.Trod enc Try.prog W 0 (fun _ => true) true 46 v d p) : ∃ A cap xs, v = .slice A xs.length cap ∧ (∀ x ∈ xs, (Lit.int .u16 x).wf = true) ∧ (intK .u16).Reads W A xs.length cap xs := by
  obtain ⟨A, n, cap, rfl⟩ := okWide_slice Try.underlying46 hval
  obtain ⟨fuel, hf⟩ := h
  obtain ⟨A', n', cap', xs, e, hr, hx⟩ := open_rows (intK .u16) (fun x => (Lit.int .u16 x).wf = true) Try.underlying46 (by kernel_rfl) (intK_one Try.underlying47) hf
  cases e
  obtain rfl := hr.len
  exact ⟨A, cap, xs, rfl, hx, hr⟩
end
end Go.Proofs.Ytakohcdopbckkaa
