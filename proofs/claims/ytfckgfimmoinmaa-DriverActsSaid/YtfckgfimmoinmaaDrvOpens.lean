/- What the arguments of layer driver's statements read as that are structs with words. -/
import Derived.Test.YtfckgfimmoinmaaOpens
namespace Go.Proofs.Ytfckgfimmoinmaa
open Go.ChangeShapes Go.WideShapes Go.ChangeAt Go.RowKit Bm

/-- An act of layer driver: its kind, two numbers, its words and the slice that holds them. -/
structure ActW where
  kind : Int
  at_ : Int
  many : Int
  A : Option Addr
  n : Nat
  cap : Nat
  ws : List (BitVec 32)
  deriving Inhabited
structure ActWAt (w : World) (a : Addr) (x : ActW) : Prop where
  b0 : 0 ≤ x.kind ∧ x.kind ≤ 255
  b1 : -9223372036854775808 ≤ x.at_ ∧ x.at_ ≤ 9223372036854775807
  b2 : -9223372036854775808 ≤ x.many ∧ x.many ≤ 9223372036854775807
  c0 : w.cell? (a.add 0) = some (.int .u8 x.kind)
  c1 : w.cell? (a.add 1) = some (.int .i64 x.at_)
  c2 : w.cell? (a.add 2) = some (.int .i64 x.many)
  c3 : w.cell? (a.add 3) = some (.slice x.A x.n x.cap)
  rd : ReadsU w x.A x.n x.cap x.ws
structure ReadsW (w : World) (A : Option Addr) (n cap : Nat) (xs : List ActW) : Prop where
  len : xs.length = n
  le : n ≤ cap
  max : cap ≤ maxLen
  cell : 0 < n → ∃ ad, A = some ad ∧ ad.block < w.heap.size ∧ ∀ j x, xs[j]? = some x → ActWAt w (ad.add (j * 4)) x
theorem ActWAt.kept {w w' : World} {a : Addr} {x : ActW} (h : ActWAt w a x) (hlt : a.block < w.heap.size) (hB : Below w.heap.size w w') : ActWAt w' a x :=
  ⟨h.b0, h.b1, h.b2, (hB.cell (p := a.add 0) (by rw [add_block]; exact hlt)).trans h.c0, (hB.cell (p := a.add 1) (by rw [add_block]; exact hlt)).trans h.c1, (hB.cell (p := a.add 2) (by rw [add_block]; exact hlt)).trans h.c2, (hB.cell (p := a.add 3) (by rw [add_block]; exact hlt)).trans h.c3, h.rd.kept hB⟩
theorem ReadsW.kept {w w' : World} {A : Option Addr} {n cap : Nat} {xs : List ActW} (h : ReadsW w A n cap xs) (hB : Below w.heap.size w w') : ReadsW w' A n cap xs :=
  ⟨h.len, h.le, h.max, fun hn => by
    obtain ⟨ad, e, hlt, hc⟩ := h.cell hn
    exact ⟨ad, e, Nat.lt_of_lt_of_le hlt hB.size, fun j x hx => (hc j x hx).kept (by rw [add_block]; exact hlt) hB⟩⟩
theorem ReadsW.at_ {w : World} {A : Option Addr} {n cap : Nat} {xs : List ActW} (h : ReadsW w A n cap xs) {j : Nat} (hj : j < n) : ∃ ad x, A = some ad ∧ xs[j]? = some x ∧ ActWAt w (ad.add (j * 4)) x := by
  obtain ⟨ad, e, _, hc⟩ := h.cell (by omega)
  have hl : j < xs.length := by rw [h.len]; exact hj
  exact ⟨ad, xs[j], e, List.getElem?_eq_getElem hl, hc j _ (List.getElem?_eq_getElem hl)⟩

section
variable {H : Type} {enc : TypeId × Value → H} {W : World}
theorem slot_int {k : IntKind} {f : TypeId} {fuel : Nat} {cs : List Value} {y : Option (DataW H × List MemPlace)} {c : Value} (hf : Try.prog.underlying f = some (.int k)) (hc : cs = [c]) (h : DataW.trod enc Try.prog W 0 (fun _ => true) true fuel f cs = y) (hy : y.isSome = true) :
    ∃ z, c = .int k z ∧ (Lit.int k z).wf = true := by
  obtain ⟨x, rfl⟩ := Option.isSome_iff_exists.1 hy
  rw [hc] at h
  obtain ⟨z, e1, _, wz⟩ := DataW.trod_int hf h
  simp only [List.cons.injEq, and_true] at e1
  exact ⟨z, e1, wz⟩
set_option maxRecDepth 100000 in
theorem slot_words {fuel : Nat} {cs : List Value} {y : Option (DataW H × List MemPlace)} {c : Value} (hc0 : cs = [c]) (h : DataW.trod enc Try.prog W 0 (fun _ => true) true fuel 31 cs = y) (hy : y.isSome = true) :
    ∃ A n cap xs, c = .slice A n cap ∧ ReadsU W A n cap xs := by
  obtain ⟨x, rfl⟩ := Option.isSome_iff_exists.1 hy
  rw [hc0] at h
  rcases Go.ChangeShapes.open_ints Try.underlying31 Try.underlying33 (by kernel_rfl) h with ⟨hc, _⟩ | ⟨a, n, cap', zs, hc, _, hle, hmx, hlen, _, hcell, hwf⟩
  · simp only [List.cons.injEq, and_true] at hc
    subst hc
    exact ⟨none, 0, 0, [], rfl, rfl, Nat.le_refl _, Nat.zero_le _, fun h => absurd h (by omega)⟩
  · simp only [List.cons.injEq, and_true] at hc
    subst hc
    simp only [if_true] at hlen
    obtain ⟨xs, hxl, rfl⟩ := words_of zs hwf
    refine ⟨some a, n, cap', xs.take n, rfl, by rw [List.length_take]; omega, hle, hmx, fun hn => ⟨a, rfl, ?_, ?_⟩⟩
    · have g := hcell 0 (by omega)
      have := World.block_lt_of_cell? W _ g
      revert this
      unfold Addr.add
      simp
    · intro j u hu
      have hj : j < n := by
        have := (List.getElem?_eq_some_iff.1 hu).1
        rw [Us_length, List.length_take] at this
        omega
      rw [hcell j (by omega)]
      rw [Us_get _ _ (by rw [List.length_take]; omega)] at hu
      rw [← hu]
      have hx : j < xs.length := by rw [List.length_map] at hlen; omega
      simp [wd, List.getD, hj, hx]

set_option maxRecDepth 100000 in
theorem open_Stop {base : Nat} {v : Value} {d : DataW H} {p : List MemPlace} (hval : Value.okWide Try.prog W .any base 68 v) (h : DataW.Trod enc Try.prog W 0 (fun _ => true) true 68 v d p) :
    ∃ a0 a1 pick A n cap xs, v = .agg #[.int .u8 a0, .int .u8 a1, .int .u32 (U pick), .slice A n cap] ∧ (Lit.int .u8 a0).wf = true ∧ (Lit.int .u8 a1).wf = true ∧ ReadsU W A n cap xs := by
  obtain ⟨cs, rfl, hsz⟩ : ∃ cs, v = .agg cs ∧ cs.size = Try.prog.cellsOf 68 := by
    simp only [Value.okWide, Try.underlying68] at hval
    obtain ⟨cs, h1, h2, _⟩ := hval
    exact ⟨cs, h1, h2⟩
  have hC : Try.prog.cellsOf 68 = 4 := by kernel_rfl
  obtain ⟨fuel, hf⟩ := h
  obtain ⟨xs, n, _, _, _, hxl, hi⟩ := DataW.trod_struct Try.underlying68 hf
  simp only [Value.cells] at hi
  rw [hC] at hsz
  obtain ⟨c0, c1, c2, c3, hcs⟩ : ∃ c0 c1 c2 c3, cs.toList = [c0, c1, c2, c3] := by
    have hl : cs.toList.length = 4 := by simpa using hsz
    match hh : cs.toList, hl with
    | [c0, c1, c2, c3], _ => exact ⟨c0, c1, c2, c3, rfl⟩
  rw [hcs] at hi
  have xl : xs.length = 4 := hxl
  have one0 : Try.prog.cellsOf 5 = 1 := by kernel_rfl
  have one1 : Try.prog.cellsOf 33 = 1 := by kernel_rfl
  have one2 : Try.prog.cellsOf 31 = 1 := by kernel_rfl
  have h0 := hi 0 _ rfl
  have h1 := hi 1 _ rfl
  have h2 := hi 2 _ rfl
  have h3 := hi 3 _ rfl
  simp only [List.getElem_toArray, List.getElem_cons_zero, List.getElem_cons_succ, one0, one1, one2] at h0 h1 h2 h3
  obtain ⟨z0, rfl, w0⟩ := slot_int Try.underlying5 rfl h0 (by simp [xl])
  obtain ⟨z1, rfl, w1⟩ := slot_int Try.underlying5 rfl h1 (by simp [xl])
  obtain ⟨z2, rfl, w2⟩ := slot_int Try.underlying33 rfl h2 (by simp [xl])
  obtain ⟨A, n3, cap, ws, rfl, r⟩ := slot_words rfl h3 (by simp [xl])
  have b := bounds_u32 w2
  obtain ⟨pick, rfl⟩ := U_of b.1 (by omega)
  refine ⟨z0, z1, pick, A, n3, cap, ws, ?_, w0, w1, r⟩
  have e : cs = cs.toList.toArray := by simp
  rw [e, hcs]
set_option maxRecDepth 100000 in
theorem open_ActWs {base : Nat} {v : Value} {d : DataW H} {p : List MemPlace} (hval : Value.okWide Try.prog W .any base 22 v) (h : DataW.Trod enc Try.prog W 0 (fun _ => true) true 22 v d p) :
    ∃ A n cap xs, v = .slice A n cap ∧ ReadsW W A n cap xs := by
  obtain ⟨A, n, cap, rfl⟩ := okWide_slice Try.underlying22 hval
  obtain ⟨fuel, hf⟩ := h
  refine ⟨A, n, cap, ?_⟩
  rcases Go.Deep.open_slice Try.underlying22 hf with ⟨hc, _⟩ | ⟨a, len, cap', m, fu, D, Pl, hc, _, hle, hmx, hm, _, hi⟩
  · simp only [Value.cells, List.cons.injEq, Value.slice.injEq, and_true] at hc
    obtain ⟨rfl, rfl, rfl⟩ := hc
    exact ⟨[], rfl, rfl, Nat.le_refl _, Nat.zero_le _, fun h => absurd h (by omega)⟩
  · simp only [Value.cells, List.cons.injEq, Value.slice.injEq, and_true] at hc
    obtain ⟨rfl, rfl, rfl⟩ := hc
    simp only [if_true] at hm
    have hC : Try.prog.cellsOf 43 = 4 := by kernel_rfl
    have key : ∀ j, j < n → ∃ x : ActW, ActWAt W (a.add (j * 4)) x := by
      intro j hj
      obtain ⟨cs', hcs, ht⟩ := hi j (by omega)
      rw [hC] at hcs
      obtain ⟨xs, n', _, _, hlen, hxl, hfl⟩ := DataW.trod_struct Try.underlying43 ht
      rw [hC] at hlen
      obtain ⟨_, _, hat⟩ := World.cells?_some hcs
      match cs', hlen with
      | [c0, c1, c2, c3], _ =>
        have h0 := hfl 0 _ rfl
        have h1 := hfl 1 _ rfl
        have h2 := hfl 2 _ rfl
        have h3 := hfl 3 _ rfl
        have one0 : Try.prog.cellsOf 5 = 1 := by kernel_rfl
        have one1 : Try.prog.cellsOf 3 = 1 := by kernel_rfl
        have one2 : Try.prog.cellsOf 31 = 1 := by kernel_rfl
        have xl : xs.length = 4 := hxl
        simp only [List.getElem_toArray, List.getElem_cons_zero, List.getElem_cons_succ, one0, one1, one2] at h0 h1 h2 h3
        obtain ⟨z0, rfl, w0⟩ := slot_int Try.underlying5 rfl h0 (by simp [xl])
        obtain ⟨z1, rfl, w1⟩ := slot_int Try.underlying3 rfl h1 (by simp [xl])
        obtain ⟨z2, rfl, w2⟩ := slot_int Try.underlying3 rfl h2 (by simp [xl])
        obtain ⟨A3, n3, cap3, ws, rfl, r⟩ := slot_words rfl h3 (by simp [xl])
        exact ⟨⟨z0, z1, z2, A3, n3, cap3, ws⟩, bounds_u8 w0, bounds_i64 w1, bounds_i64 w2, hat 0 (by simp), hat 1 (by simp), hat 2 (by simp), hat 3 (by simp), r⟩
    refine ⟨(List.range n).map fun j => if h : j < n then (key j h).choose else default, rfl, by simp, hle, hmx, fun hn => ⟨a, rfl, ?_, ?_⟩⟩
    · have g := (key 0 hn).choose_spec.c0
      have := World.block_lt_of_cell? W _ g
      revert this
      unfold Addr.add
      simp
    · intro j x hx
      have hj : j < n := by
        have := (List.getElem?_eq_some_iff.1 hx).1
        simpa using this
      have e : x = (key j hj).choose := by
        rw [List.getElem?_map, List.getElem?_range hj] at hx
        simp only [Option.map_some, Option.some.injEq] at hx
        rw [dif_pos hj] at hx
        exact hx.symm
      rw [e]
      exact (key j hj).choose_spec
end
end Go.Proofs.Ytfckgfimmoinmaa
