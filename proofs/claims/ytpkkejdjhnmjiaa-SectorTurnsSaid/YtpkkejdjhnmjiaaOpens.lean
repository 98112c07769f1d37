/- What arguments that are slices read as. -/
import Derived.Test.YtpkkejdjhnmjiaaLaw
import Derived.Deep.Slices
import Derived.Deep.Fields
import Derived.ChangeSame
namespace Go.Proofs.Ytpkkejdjhnmjiaa
open Go.ChangeShapes Go.WideShapes Go.ChangeAt Go.RowKit Bm

section
variable {H : Type} {enc : TypeId × Value → H} {W : World}

theorem words_of : ∀ (zs : List Int), (∀ z ∈ zs, (Lit.int .u32 z).wf = true) → ∃ xs : List (BitVec 32), xs.length = zs.length ∧ zs = xs.map U
  | [], _ => ⟨[], rfl, rfl⟩
  | z :: zs, h => by
    obtain ⟨xs, hl, e⟩ := words_of zs fun y hy => h y (by simp [hy])
    have b := bounds_u32 (h z (by simp))
    obtain ⟨x, rfl⟩ := U_of b.1 (by omega)
    exact ⟨x :: xs, by simp [hl], by simp [← e]⟩

set_option maxRecDepth 100000 in
theorem open_words {base : Nat} {v : Value} {d : DataW H} {p : List MemPlace} (hval : Value.okWide Try.prog W .any base 46 v) (h : DataW.Trod enc Try.prog W 0 (fun _ => true) true 46 v d p) :
    ∃ A n cap xs, v = .slice A n cap ∧ ReadsU W A n cap xs := by
  obtain ⟨A, n, cap, rfl⟩ := okWide_slice Try.underlying46 hval
  obtain ⟨fuel, hf⟩ := h
  refine ⟨A, n, cap, ?_⟩
  rcases Go.ChangeShapes.open_ints Try.underlying46 Try.underlying31 (by kernel_rfl) hf with ⟨hc, _⟩ | ⟨a, len, cap', zs, hc, _, hle, hmx, hlen, _, hcell, hwf⟩
  · simp only [Value.cells, List.cons.injEq, Value.slice.injEq, and_true] at hc
    obtain ⟨rfl, rfl, rfl⟩ := hc
    exact ⟨[], rfl, rfl, Nat.le_refl _, Nat.zero_le _, fun h => absurd h (by omega)⟩
  · simp only [Value.cells, List.cons.injEq, Value.slice.injEq, and_true] at hc
    obtain ⟨rfl, rfl, rfl⟩ := hc
    simp only [if_true] at hlen
    obtain ⟨xs, hxl, rfl⟩ := words_of zs hwf
    refine ⟨xs.take n, rfl, by rw [List.length_take]; omega, hle, hmx, fun hn => ⟨a, rfl, ?_, ?_⟩⟩
    · have g := hcell 0 (by omega)
      have := World.block_lt_of_cell? W _ g
      revert this
      unfold Addr.add
      simp
    · intro j u hu
      have hj : j < n := by
        have := (List.getElem?_eq_some_iff.1 hu).1
        rw [Us_length, List.length_take] at this
        omega
      rw [hcell j (by omega)]
      rw [Us_get _ _ (by rw [List.length_take]; omega)] at hu
      rw [← hu]
      have hx : j < xs.length := by rw [List.length_map] at hlen; omega
      simp [wd, List.getD, hj, hx]

end
end Go.Proofs.Ytpkkejdjhnmjiaa
