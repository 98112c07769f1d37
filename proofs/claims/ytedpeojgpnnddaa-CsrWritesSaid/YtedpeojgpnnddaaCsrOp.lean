/- What arguments that are registers of state, and puts, read as (layer csr). -/
import Derived.Test.YtedpeojgpnnddaaCsrM
import Derived.OpenShut
import Derived.ProofKit
namespace Go.Proofs.Ytedpeojgpnnddaa
open Go.ChangeShapes Go.WideShapes Go.ChangeAt Go.RowKit Bm

section
variable {H : Type} {enc : TypeId × Value → H} {W : World}
theorem list_three13 {α : Type} : ∀ {l : List α}, l.length = 3 → ∃ a b c, l = [a, b, c]
  | [a, b, c], _ => ⟨a, b, c, rfl⟩
theorem list_17 {α : Type} : ∀ {l : List α}, l.length = 17 → ∃ c0 c1 c2 c3 c4 c5 c6 c7 c8 c9 c10 c11 c12 c13 c14 c15 c16, l = [c0, c1, c2, c3, c4, c5, c6, c7, c8, c9, c10, c11, c12, c13, c14, c15, c16]
  | [c0, c1, c2, c3, c4, c5, c6, c7, c8, c9, c10, c11, c12, c13, c14, c15, c16], _ => ⟨c0, c1, c2, c3, c4, c5, c6, c7, c8, c9, c10, c11, c12, c13, c14, c15, c16, rfl⟩
theorem cell_int13 {k : IntKind} {f : TypeId} {fuel : Nat} {cs : List Value} {y : Option (DataW H × List MemPlace)} {c : Value} (hf : Try.prog.underlying f = some (.int k)) (hc : cs = [c]) (h : DataW.trod enc Try.prog W 0 (fun _ => true) true fuel f cs = y) (hy : y.isSome = true) :
    ∃ z, c = .int k z ∧ (Lit.int k z).wf = true := by
  obtain ⟨x, rfl⟩ := Option.isSome_iff_exists.1 hy
  rw [hc] at h
  obtain ⟨z, e1, _, wz⟩ := DataW.trod_int hf h
  simp only [List.cons.injEq, and_true] at e1
  exact ⟨z, e1, wz⟩
theorem cyc_of {z : Int} (h0 : 0 ≤ z) (h1 : z < 18446744073709551616) : ∃ h l : BitVec 32, z = U h * 4294967296 + U l := by
  obtain ⟨h, hh⟩ := U_of (a := z / 4294967296) (by omega) (by omega)
  obtain ⟨l, hl⟩ := U_of (a := z % 4294967296) (by omega) (by omega)
  exact ⟨h, l, by omega⟩
set_option maxRecDepth 100000 in
set_option maxHeartbeats 1000000 in
theorem open_File13 {base : Nat} {v : Value} {d : DataW H} {p : List MemPlace} (hval : Value.okWide Try.prog W .any base 25 v) (h : DataW.Trod enc Try.prog W 0 (fun _ => true) true 25 v d p) :
    ∃ f : FileM, v = .agg (flC f).toArray := by
  obtain ⟨cs, rfl, hsz⟩ : ∃ cs, v = .agg cs ∧ cs.size = Try.prog.cellsOf 25 := by
    simp only [Value.okWide, Try.underlying25] at hval
    obtain ⟨cs, h1, h2, _⟩ := hval
    exact ⟨cs, h1, h2⟩
  have hC : Try.prog.cellsOf 25 = 17 := by kernel_rfl
  obtain ⟨fuel, hf⟩ := h
  obtain ⟨xs, n, _, _, _, hxl, hi⟩ := DataW.trod_struct Try.underlying25 hf
  simp only [Value.cells] at hi
  rw [hC] at hsz
  obtain ⟨c0, c1, c2, c3, c4, c5, c6, c7, c8, c9, c10, c11, c12, c13, c14, c15, c16, hcs⟩ := list_17 (l := cs.toList) (by simpa using hsz)
  rw [hcs] at hi
  have xl : xs.length = 17 := hxl
  have one0 : Try.prog.cellsOf 22 = 1 := by kernel_rfl
  have one1 : Try.prog.cellsOf 23 = 1 := by kernel_rfl
  have h0 := hi 0 _ rfl
  have h1 := hi 1 _ rfl
  have h2 := hi 2 _ rfl
  have h3 := hi 3 _ rfl
  have h4 := hi 4 _ rfl
  have h5 := hi 5 _ rfl
  have h6 := hi 6 _ rfl
  have h7 := hi 7 _ rfl
  have h8 := hi 8 _ rfl
  have h9 := hi 9 _ rfl
  have h10 := hi 10 _ rfl
  have h11 := hi 11 _ rfl
  have h12 := hi 12 _ rfl
  have h13 := hi 13 _ rfl
  have h14 := hi 14 _ rfl
  have h15 := hi 15 _ rfl
  have h16 := hi 16 _ rfl
  simp only [List.getElem_toArray, List.getElem_cons_zero, List.getElem_cons_succ, one0, one1] at h0 h1 h2 h3 h4 h5 h6 h7 h8 h9 h10 h11 h12 h13 h14 h15 h16
  obtain ⟨z0, rfl, w0⟩ := cell_int13 Try.underlying22 rfl h0 (by simp [xl])
  have bd0 := bounds_u32 w0
  obtain ⟨x0, rfl⟩ := U_of bd0.1 (by omega)
  obtain ⟨z1, rfl, w1⟩ := cell_int13 Try.underlying22 rfl h1 (by simp [xl])
  have bd1 := bounds_u32 w1
  obtain ⟨x1, rfl⟩ := U_of bd1.1 (by omega)
  obtain ⟨z2, rfl, w2⟩ := cell_int13 Try.underlying22 rfl h2 (by simp [xl])
  have bd2 := bounds_u32 w2
  obtain ⟨x2, rfl⟩ := U_of bd2.1 (by omega)
  obtain ⟨z3, rfl, w3⟩ := cell_int13 Try.underlying22 rfl h3 (by simp [xl])
  have bd3 := bounds_u32 w3
  obtain ⟨x3, rfl⟩ := U_of bd3.1 (by omega)
  obtain ⟨z4, rfl, w4⟩ := cell_int13 Try.underlying22 rfl h4 (by simp [xl])
  have bd4 := bounds_u32 w4
  obtain ⟨x4, rfl⟩ := U_of bd4.1 (by omega)
  obtain ⟨z5, rfl, w5⟩ := cell_int13 Try.underlying22 rfl h5 (by simp [xl])
  have bd5 := bounds_u32 w5
  obtain ⟨x5, rfl⟩ := U_of bd5.1 (by omega)
  obtain ⟨z6, rfl, w6⟩ := cell_int13 Try.underlying22 rfl h6 (by simp [xl])
  have bd6 := bounds_u32 w6
  obtain ⟨x6, rfl⟩ := U_of bd6.1 (by omega)
  obtain ⟨z7, rfl, w7⟩ := cell_int13 Try.underlying22 rfl h7 (by simp [xl])
  have bd7 := bounds_u32 w7
  obtain ⟨x7, rfl⟩ := U_of bd7.1 (by omega)
  obtain ⟨z8, rfl, w8⟩ := cell_int13 Try.underlying22 rfl h8 (by simp [xl])
  have bd8 := bounds_u32 w8
  obtain ⟨x8, rfl⟩ := U_of bd8.1 (by omega)
  obtain ⟨z9, rfl, w9⟩ := cell_int13 Try.underlying22 rfl h9 (by simp [xl])
  have bd9 := bounds_u32 w9
  obtain ⟨x9, rfl⟩ := U_of bd9.1 (by omega)
  obtain ⟨z10, rfl, w10⟩ := cell_int13 Try.underlying22 rfl h10 (by simp [xl])
  have bd10 := bounds_u32 w10
  obtain ⟨x10, rfl⟩ := U_of bd10.1 (by omega)
  obtain ⟨z11, rfl, w11⟩ := cell_int13 Try.underlying22 rfl h11 (by simp [xl])
  have bd11 := bounds_u32 w11
  obtain ⟨x11, rfl⟩ := U_of bd11.1 (by omega)
  obtain ⟨z12, rfl, w12⟩ := cell_int13 Try.underlying22 rfl h12 (by simp [xl])
  have bd12 := bounds_u32 w12
  obtain ⟨x12, rfl⟩ := U_of bd12.1 (by omega)
  obtain ⟨z13, rfl, w13⟩ := cell_int13 Try.underlying22 rfl h13 (by simp [xl])
  have bd13 := bounds_u32 w13
  obtain ⟨x13, rfl⟩ := U_of bd13.1 (by omega)
  obtain ⟨z14, rfl, w14⟩ := cell_int13 Try.underlying22 rfl h14 (by simp [xl])
  have bd14 := bounds_u32 w14
  obtain ⟨x14, rfl⟩ := U_of bd14.1 (by omega)
  obtain ⟨z15, rfl, w15⟩ := cell_int13 Try.underlying22 rfl h15 (by simp [xl])
  have bd15 := bounds_u32 w15
  obtain ⟨x15, rfl⟩ := U_of bd15.1 (by omega)
  obtain ⟨z16, rfl, w16⟩ := cell_int13 Try.underlying23 rfl h16 (by simp [xl])
  have bd16 := bounds_u64 w16
  obtain ⟨hi', lo', rfl⟩ := cyc_of bd16.1 (by omega)
  refine ⟨⟨x0, x1, x2, x3, x4, x5, x6, x7, x8, x9, x10, x11, x12, x13, x14, x15, lo', hi'⟩, ?_⟩
  have ec : cs = cs.toList.toArray := by simp
  rw [ec, hcs]
  rfl
set_option maxRecDepth 100000 in
theorem open_Put13 {base : Nat} {v : Value} {d : DataW H} {p : List MemPlace} (hval : Value.okWide Try.prog W .any base 33 v) (h : DataW.Trod enc Try.prog W 0 (fun _ => true) true 33 v d p) :
    ∃ (a b : Int) (x : BitVec 32), v = .agg #[.int .i64 a, .int .i64 b, .int .u32 (U x)] ∧ (Lit.int .i64 a).wf = true ∧ (Lit.int .i64 b).wf = true := by
  obtain ⟨cs, rfl, hsz⟩ : ∃ cs, v = .agg cs ∧ cs.size = Try.prog.cellsOf 33 := by
    simp only [Value.okWide, Try.underlying33] at hval
    obtain ⟨cs, h1, h2, _⟩ := hval
    exact ⟨cs, h1, h2⟩
  have hC : Try.prog.cellsOf 33 = 3 := by kernel_rfl
  obtain ⟨fuel, hf⟩ := h
  obtain ⟨xs, n, _, _, _, hxl, hi⟩ := DataW.trod_struct Try.underlying33 hf
  simp only [Value.cells] at hi
  rw [hC] at hsz
  obtain ⟨c0, c1, c2, hcs⟩ := list_three13 (l := cs.toList) (by simpa using hsz)
  rw [hcs] at hi
  have xl : xs.length = 3 := hxl
  have one0 : Try.prog.cellsOf 22 = 1 := by kernel_rfl
  have one1 : Try.prog.cellsOf 3 = 1 := by kernel_rfl
  have h0 := hi 0 _ rfl
  have h1 := hi 1 _ rfl
  have h2 := hi 2 _ rfl
  simp only [List.getElem_toArray, List.getElem_cons_zero, List.getElem_cons_succ, one0, one1] at h0 h1 h2
  obtain ⟨a, rfl, wa⟩ := cell_int13 Try.underlying3 rfl h0 (by simp [xl])
  obtain ⟨b, rfl, wb⟩ := cell_int13 Try.underlying3 rfl h1 (by simp [xl])
  obtain ⟨z, rfl, wz⟩ := cell_int13 Try.underlying22 rfl h2 (by simp [xl])
  have bd := bounds_u32 wz
  obtain ⟨x, rfl⟩ := U_of bd.1 (by omega)
  refine ⟨a, b, x, ?_, wa, wb⟩
  have ec : cs = cs.toList.toArray := by simp
  rw [ec, hcs]
end
end Go.Proofs.Ytedpeojgpnnddaa
