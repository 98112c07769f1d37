/- What arguments that are slices read as. -/
import Derived.Test.YteiegkfoabhikaaLaw
import Derived.Deep.Slices
import Derived.Deep.Fields
import Derived.ChangeSame
namespace Go.Proofs.Yteiegkfoabhikaa
open Go.ChangeShapes Go.WideShapes Go.ChangeAt Go.RowKit Bm

section
variable {H : Type} {enc : TypeId × Value → H} {W : World}

theorem words_of : ∀ (zs : List Int), (∀ z ∈ zs, (Lit.int .u32 z).wf = true) → ∃ xs : List (BitVec 32), xs.length = zs.length ∧ zs = xs.map U
  | [], _ => ⟨[], rfl, rfl⟩
  | z :: zs, h => by
    obtain ⟨xs, hl, e⟩ := words_of zs fun y hy => h y (by simp [hy])
    have b := bounds_u32 (h z (by simp))
    obtain ⟨x, rfl⟩ := U_of b.1 (by omega)
    exact ⟨x :: xs, by simp [hl], by simp [← e]⟩

set_option maxRecDepth 100000 in
theorem open_words {base : Nat} {v : Value} {d : DataW H} {p : List MemPlace} (hval : Value.okWide Try.prog W .any base 28 v) (h : DataW.Trod enc Try.prog W 0 (fun _ => true) true 28 v d p) :
    ∃ A n cap xs, v = .slice A n cap ∧ ReadsU W A n cap xs := by
  obtain ⟨A, n, cap, rfl⟩ := okWide_slice Try.underlying28 hval
  obtain ⟨fuel, hf⟩ := h
  refine ⟨A, n, cap, ?_⟩
  rcases Go.ChangeShapes.open_ints Try.underlying28 Try.underlying30 (by kernel_rfl) hf with ⟨hc, _⟩ | ⟨a, len, cap', zs, hc, _, hle, hmx, hlen, _, hcell, hwf⟩
  · simp only [Value.cells, List.cons.injEq, Value.slice.injEq, and_true] at hc
    obtain ⟨rfl, rfl, rfl⟩ := hc
    exact ⟨[], rfl, rfl, Nat.le_refl _, Nat.zero_le _, fun h => absurd h (by omega)⟩
  · simp only [Value.cells, List.cons.injEq, Value.slice.injEq, and_true] at hc
    obtain ⟨rfl, rfl, rfl⟩ := hc
    simp only [if_true] at hlen
    obtain ⟨xs, hxl, rfl⟩ := words_of zs hwf
    refine ⟨xs.take n, rfl, by rw [List.length_take]; omega, hle, hmx, fun hn => ⟨a, rfl, ?_, ?_⟩⟩
    · have g := hcell 0 (by omega)
      have := World.block_lt_of_cell? W _ g
      revert this
      unfold Addr.add
      simp
    · intro j u hu
      have hj : j < n := by
        have := (List.getElem?_eq_some_iff.1 hu).1
        rw [Us_length, List.length_take] at this
        omega
      rw [hcell j (by omega)]
      rw [Us_get _ _ (by rw [List.length_take]; omega)] at hu
      rw [← hu]
      have hx : j < xs.length := by rw [List.length_map] at hlen; omega
      simp [wd, List.getD, hj, hx]

/-- One field of one cell. -/
theorem field_int {k : IntKind} {f : TypeId} {fuel off : Nat} {cs : List Value} {y : Option (DataW H × List MemPlace)} {c : Value} (hf : Try.prog.underlying f = some (.int k)) (hc : (cs.drop off).take 1 = [c]) (h : DataW.trod enc Try.prog W 0 (fun _ => true) true fuel f ((cs.drop off).take 1) = y) (hy : y.isSome = true) :
    ∃ z, c = .int k z ∧ (Lit.int k z).wf = true := by
  obtain ⟨x, rfl⟩ := Option.isSome_iff_exists.1 hy
  rw [hc] at h
  obtain ⟨z, e1, _, wz⟩ := DataW.trod_int hf h
  simp only [List.cons.injEq, and_true] at e1
  exact ⟨z, e1, wz⟩

set_option maxRecDepth 100000 in
theorem open_Acts {base : Nat} {v : Value} {d : DataW H} {p : List MemPlace} (hval : Value.okWide Try.prog W .any base 22 v) (h : DataW.Trod enc Try.prog W 0 (fun _ => true) true 22 v d p) :
    ∃ A n cap xs, v = .slice A n cap ∧ ReadsA W A n cap xs := by
  obtain ⟨A, n, cap, rfl⟩ := okWide_slice Try.underlying22 hval
  obtain ⟨fuel, hf⟩ := h
  refine ⟨A, n, cap, ?_⟩
  rcases Go.Deep.open_slice Try.underlying22 hf with ⟨hc, _⟩ | ⟨a, len, cap', m, fu, D, Pl, hc, _, hle, hmx, hm, _, hi⟩
  · simp only [Value.cells, List.cons.injEq, Value.slice.injEq, and_true] at hc
    obtain ⟨rfl, rfl, rfl⟩ := hc
    exact ⟨[], rfl, rfl, Nat.le_refl _, Nat.zero_le _, fun h => absurd h (by omega)⟩
  · simp only [Value.cells, List.cons.injEq, Value.slice.injEq, and_true] at hc
    obtain ⟨rfl, rfl, rfl⟩ := hc
    simp only [if_true] at hm
    have hC : Try.prog.cellsOf 38 = 3 := by kernel_rfl
    have key : ∀ j, j < n → ∃ x : ActM, ActAt W (a.add (j * 3)) x := by
      intro j hj
      obtain ⟨cs', hcs, ht⟩ := hi j (by omega)
      rw [hC] at hcs
      obtain ⟨xs, n', _, _, hlen, hxl, hfl⟩ := DataW.trod_struct Try.underlying38 ht
      rw [hC] at hlen
      obtain ⟨_, _, hat⟩ := World.cells?_some hcs
      match cs', hlen with
      | [c0, c1, c2], _ =>
        have h0 := hfl 0 _ rfl
        have h1 := hfl 1 _ rfl
        have h2 := hfl 2 _ rfl
        have one0 : Try.prog.cellsOf 5 = 1 := by kernel_rfl
        have one1 : Try.prog.cellsOf 3 = 1 := by kernel_rfl
        have one2 : Try.prog.cellsOf 30 = 1 := by kernel_rfl
        have xl : xs.length = 3 := hxl
        simp only [List.getElem_toArray, List.getElem_cons_zero, List.getElem_cons_succ, one0, one1, one2] at h0 h1 h2
        obtain ⟨z0, rfl, w0⟩ := field_int Try.underlying5 rfl h0 (by simp [xl])
        obtain ⟨z1, rfl, w1⟩ := field_int Try.underlying3 rfl h1 (by simp [xl])
        obtain ⟨z2, rfl, w2⟩ := field_int Try.underlying30 rfl h2 (by simp [xl])
        have b2 := bounds_u32 w2
        obtain ⟨x, rfl⟩ := U_of b2.1 (by omega)
        exact ⟨⟨z0, z1, x⟩, bounds_u8 w0, bounds_i64 w1, hat 0 (by simp), hat 1 (by simp), hat 2 (by simp)⟩
    refine ⟨(List.range n).map fun j => if h : j < n then (key j h).choose else default, rfl, by simp, hle, hmx, fun hn => ⟨a, rfl, ?_, ?_⟩⟩
    · have g := (key 0 hn).choose_spec.c0
      have := World.block_lt_of_cell? W _ g
      revert this
      unfold Addr.add
      simp
    · intro j x hx
      have hj : j < n := by
        have := (List.getElem?_eq_some_iff.1 hx).1
        simpa using this
      have e : x = (key j hj).choose := by
        rw [List.getElem?_map, List.getElem?_range hj] at hx
        simp only [Option.map_some, Option.some.injEq] at hx
        rw [dif_pos hj] at hx
        exact hx.symm
      rw [e]
      exact (key j hj).choose_spec
end
end Go.Proofs.Yteiegkfoabhikaa
