/- What an argument that is a slice of acts reads as (layer ftl). -/
import Derived.Test.YtnfgpjfldgocaaaGreatOpens
import Derived.Test.YtnfgpjfldgocaaaGreatFtlHp
namespace Go.Proofs.YtnfgpjfldgocaaaGreat
open Go.ChangeShapes Go.WideShapes Go.ChangeAt Go.RowKit Bm
structure ReadsA8 (w : World) (A : Option Addr) (n cap : Nat) (xs : List Act8) : Prop where
  len : xs.length = n
  le : n ≤ cap
  max : cap ≤ maxLen
  cell : 0 < n → ∃ g off, A = some ⟨g, off, none⟩ ∧ g < w.heap.size ∧ ∀ j x, xs[j]? = some x → A8Ok x ∧ w.rangeAt g (off + j * 3) (a8C x)
section
variable {w w' : World} {A : Option Addr} {n cap : Nat} {xs : List Act8}
theorem ReadsA8.kept (h : ReadsA8 w A n cap xs) (hB : Below w.heap.size w w') : ReadsA8 w' A n cap xs :=
  ⟨h.len, h.le, h.max, fun hn => by
    obtain ⟨g, off, e, hlt, hc⟩ := h.cell hn
    exact ⟨g, off, e, Nat.lt_of_lt_of_le hlt hB.size, fun j x hx => ⟨(hc j x hx).1, range_kept (hc j x hx).2 (hB.block g hlt)⟩⟩⟩
end
section
variable {H : Type} {enc : TypeId × Value → H} {W : World}
theorem no_spot8 {a : Addr} {v : Value} (h : W.cell? a = some v) : a = ⟨a.block, a.off, none⟩ := by
  have : a.spot = none := by
    cases hs : a.spot with
    | none => rfl
    | some s => unfold World.cell? at h; simp only [hs] at h; split at h <;> simp at h
  cases a
  simp_all
theorem slot_int8 {k : IntKind} {f : TypeId} {fuel : Nat} {cs : List Value} {y : Option (DataW H × List MemPlace)} {c : Value} (hf : Tryz.prog.underlying f = some (.int k)) (hc : cs = [c]) (h : DataW.trod enc Tryz.prog W 0 (fun _ => true) true fuel f cs = y) (hy : y.isSome = true) :
    ∃ z, c = .int k z ∧ (Lit.int k z).wf = true := by
  obtain ⟨x, rfl⟩ := Option.isSome_iff_exists.1 hy
  rw [hc] at h
  obtain ⟨z, e1, _, wz⟩ := DataW.trod_int hf h
  simp only [List.cons.injEq, and_true] at e1
  exact ⟨z, e1, wz⟩
set_option maxRecDepth 100000 in
theorem open_Acts8 {base : Nat} {v : Value} {d : DataW H} {p : List MemPlace} (hval : Value.okWide Tryz.prog W .any base 22 v) (h : DataW.Trod enc Tryz.prog W 0 (fun _ => true) true 22 v d p) :
    ∃ A n cap xs, v = .slice A n cap ∧ ReadsA8 W A n cap xs := by
  obtain ⟨A, n, cap, rfl⟩ := okWide_slice Tryz.underlying22 hval
  obtain ⟨fuel, hf⟩ := h
  refine ⟨A, n, cap, ?_⟩
  rcases Go.Deep.open_slice Tryz.underlying22 hf with ⟨hc, _⟩ | ⟨a, len, cap', m, fu, D, Pl, hc, _, hle, hmx, hm, _, hi⟩
  · simp only [Value.cells, List.cons.injEq, Value.slice.injEq, and_true] at hc
    obtain ⟨rfl, rfl, rfl⟩ := hc
    exact ⟨[], rfl, rfl, Nat.le_refl _, Nat.zero_le _, fun h => absurd h (by omega)⟩
  · simp only [Value.cells, List.cons.injEq, Value.slice.injEq, and_true] at hc
    obtain ⟨rfl, rfl, rfl⟩ := hc
    simp only [if_true] at hm
    have hC : Tryz.prog.cellsOf 40 = 3 := by kernel_rfl
    have key : ∀ j, j < n → ∃ x : Act8, A8Ok x ∧ ∀ i v, (a8C x)[i]? = some v → W.cell? (a.add (j * 3 + i)) = some v := by
      intro j hj
      obtain ⟨cs', hcs, ht⟩ := hi j (by omega)
      rw [hC] at hcs
      obtain ⟨xs, n', _, _, hlen, hxl, hfl⟩ := DataW.trod_struct Tryz.underlying40 ht
      rw [hC] at hlen
      obtain ⟨_, _, hat⟩ := World.cells?_some hcs
      match cs', hlen with
      | [c0, c1, c2], _ =>
        have h0 := hfl 0 _ rfl
        have h1 := hfl 1 _ rfl
        have h2 := hfl 2 _ rfl
        have one0 : Tryz.prog.cellsOf 5 = 1 := by kernel_rfl
        have one1 : Tryz.prog.cellsOf 3 = 1 := by kernel_rfl
        have one2 : Tryz.prog.cellsOf 38 = 1 := by kernel_rfl
        have xl : xs.length = 3 := hxl
        simp only [List.getElem_toArray, List.getElem_cons_zero, List.getElem_cons_succ, one0, one1, one2] at h0 h1 h2
        obtain ⟨z0, rfl, w0⟩ := slot_int8 Tryz.underlying5 rfl h0 (by simp [xl])
        obtain ⟨z1, rfl, w1⟩ := slot_int8 Tryz.underlying3 rfl h1 (by simp [xl])
        obtain ⟨z2, rfl, w2⟩ := slot_int8 Tryz.underlying38 rfl h2 (by simp [xl])
        have b2 := bounds_u32 w2
        obtain ⟨vv, hvv⟩ := U_of b2.1 (by omega)
        refine ⟨⟨z0, z1, vv⟩, ⟨(bounds_u8 w0).1, (bounds_u8 w0).2, (bounds_i64 w1).1, by have := (bounds_i64 w1).2; omega⟩, fun i v hv => ?_⟩
        have hlt : i < 3 := (List.getElem?_eq_some_iff.1 hv).1
        rw [← Go.Deep.add_add]
        refine (hat i hlt).trans ?_
        rw [hvv]
        exact hv
    refine ⟨(List.range n).map fun j => if h : j < n then (key j h).choose else default, rfl, by simp, hle, hmx, fun hn => ?_⟩
    · have g := (key 0 hn).choose_spec.2 0 _ rfl
      have ha : a = ⟨a.block, a.off, none⟩ := no_spot8 (W := W) (by simpa [Addr.add] using g)
      refine ⟨a.block, a.off, congrArg some ha, ?_, ?_⟩
      · have := World.block_lt_of_cell? W _ g
        revert this
        unfold Addr.add
        simp
      · intro j x hx
        have hj : j < n := by
          have := (List.getElem?_eq_some_iff.1 hx).1
          simpa using this
        have e : x = (key j hj).choose := by
          rw [List.getElem?_map, List.getElem?_range hj] at hx
          simp only [Option.map_some, Option.some.injEq] at hx
          rw [dif_pos hj] at hx
          exact hx.symm
        rw [e]
        refine ⟨(key j hj).choose_spec.1, ?_⟩
        intro i v hv
        have := (key j hj).choose_spec.2 i v hv
        rw [ha] at this
        rw [Nat.add_assoc]
        unfold Addr.add at this
        split at this
        · rename_i h0; rw [h0, Nat.add_zero]; exact this
        · exact this
end
end Go.Proofs.YtnfgpjfldgocaaaGreat
