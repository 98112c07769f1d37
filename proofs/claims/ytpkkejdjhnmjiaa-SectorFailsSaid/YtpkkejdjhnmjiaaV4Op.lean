/- What arguments of sectors of four words read as. -/
import Derived.Test.YtpkkejdjhnmjiaaV4
import Derived.Test.YtpkkejdjhnmjiaaKdOp
namespace Go.Proofs.Ytpkkejdjhnmjiaa
open Go.ChangeShapes Go.WideShapes Go.ChangeAt Go.RowKit Bm

section
variable {H : Type} {enc : TypeId × Value → H} {W : World}
set_option maxRecDepth 100000 in
theorem trod_v4 {fuel : Nat} {cs : List Value} {y : DataW H × List MemPlace} (hl : cs.length = 4) (h : DataW.trod enc Try.prog W 0 (fun _ => true) true fuel 39 cs = some y) : ∃ v, cs = v4C v := by
  obtain ⟨ys, m, _, _, _, hyl, hj⟩ := DataW.trod_array Try.underlying39 h
  have one0 : Try.prog.cellsOf 31 = 1 := by kernel_rfl
  match cs, hl with
  | [c0, c1, c2, c3], _ =>
    have k0 := hj 0 (by omega)
    have k1 := hj 1 (by omega)
    have k2 := hj 2 (by omega)
    have k3 := hj 3 (by omega)
    simp only [one0] at k0 k1 k2 k3
    obtain ⟨d0, rfl⟩ := cut_word Try.underlying31 rfl k0 (by simp [hyl])
    obtain ⟨d1, rfl⟩ := cut_word Try.underlying31 rfl k1 (by simp [hyl])
    obtain ⟨d2, rfl⟩ := cut_word Try.underlying31 rfl k2 (by simp [hyl])
    obtain ⟨d3, rfl⟩ := cut_word Try.underlying31 rfl k3 (by simp [hyl])
    exact ⟨⟨d0, d1, d2, d3⟩, rfl⟩
set_option maxRecDepth 100000 in
theorem trod_v4s {fuel : Nat} {c : Value} {y : DataW H × List MemPlace} (h : DataW.trod enc Try.prog W 0 (fun _ => true) true fuel 25 [c] = some y) : ∃ A n cap xs, c = .slice A n cap ∧ v4K.Reads W A n cap xs := by
  obtain ⟨A, n, cap, xs, e, hr, _⟩ := open_rows v4K (fun _ => True) Try.underlying25 (by kernel_rfl) (fun fuel cs y hl h => by
    obtain ⟨v, e⟩ := trod_v4 hl h
    exact ⟨v, trivial, e⟩) h
  exact ⟨A, n, cap, xs, e, hr⟩
theorem open_V4s {base : Nat} {v : Value} {d : DataW H} {p : List MemPlace} (hval : Value.okWide Try.prog W .any base 25 v) (h : DataW.Trod enc Try.prog W 0 (fun _ => true) true 25 v d p) : ∃ A cap xs, v = .slice A xs.length cap ∧ v4K.Reads W A xs.length cap xs := by
  obtain ⟨A, n, cap, rfl⟩ := okWide_slice Try.underlying25 hval
  obtain ⟨fuel, hf⟩ := h
  obtain ⟨A', n', cap', xs, e, hr⟩ := trod_v4s hf
  cases e
  obtain rfl := hr.len
  exact ⟨A, cap, xs, rfl, hr⟩
set_option maxRecDepth 100000 in
theorem agg_of {t : TypeId} {v : Value} {base : Nat} {fs : Array Field} (hu : Try.prog.underlying t = some (.struct fs)) (hval : Value.okWide Try.prog W .any base t v) : ∃ cs, v = .agg cs ∧ cs.size = Try.prog.cellsOf t := by
  simp only [Value.okWide, hu] at hval
  obtain ⟨cs, h1, h2, _⟩ := hval
  exact ⟨cs, h1, h2⟩
set_option maxRecDepth 100000 in
theorem open_V4 {base : Nat} {v : Value} {d : DataW H} {p : List MemPlace} (hval : Value.okWide Try.prog W .any base 39 v) (h : DataW.Trod enc Try.prog W 0 (fun _ => true) true 39 v d p) : ∃ x, v = .agg (v4C x).toArray := by
  obtain ⟨cs, rfl, hsz⟩ : ∃ cs, v = .agg cs ∧ cs.size = Try.prog.cellsOf 39 := by
    simp only [Value.okWide, Try.underlying39] at hval
    obtain ⟨cs, h1, h2, _⟩ := hval
    exact ⟨cs, h1, h2⟩
  have hC : Try.prog.cellsOf 39 = 4 := by kernel_rfl
  obtain ⟨fuel, hf⟩ := h
  obtain ⟨x, e⟩ := trod_v4 (by simpa [Value.cells, hC] using hsz) hf
  simp only [Value.cells] at e
  exact ⟨x, by rw [← e]⟩
end
end Go.Proofs.Ytpkkejdjhnmjiaa
