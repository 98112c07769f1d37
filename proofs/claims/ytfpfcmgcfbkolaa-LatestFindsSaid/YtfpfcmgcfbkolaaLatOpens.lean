/- What an argument that is a slice of places reads as. -/
import Derived.Test.YtfpfcmgcfbkolaaScanOpens
import Derived.Test.YtfpfcmgcfbkolaaLatMath
namespace Go.Proofs.Ytfpfcmgcfbkolaa
open Go.ChangeShapes Go.WideShapes Go.ChangeAt Go.RowKit Bm

section
variable {H : Type} {enc : TypeId × Value → H} {W : World}

set_option maxRecDepth 100000 in
theorem trod_place {fuel : Nat} {cs : List Value} {x : DataW H × List MemPlace} (h : DataW.trod enc Try.prog W 0 (fun _ => true) true fuel 48 cs = some x) : ∃ b : PlM, cs = plC b := by
  have hC : Try.prog.cellsOf 48 = 9 := by kernel_rfl
  obtain ⟨xs, n, _, _, hsz, hxl, hi⟩ := DataW.trod_struct Try.underlying48 h
  rw [hC] at hsz
  have xl : xs.length = 3 := hxl
  have one0 : Try.prog.cellsOf 3 = 1 := by kernel_rfl
  have many : Try.prog.cellsOf 46 = 7 := by kernel_rfl
  have h0 := hi 0 _ rfl
  have h1 := hi 1 _ rfl
  have h2 := hi 2 _ rfl
  simp only [List.getElem_toArray, List.getElem_cons_zero, List.getElem_cons_succ, one0, many] at h0 h1 h2
  rw [List.getElem?_eq_getElem (by omega)] at h0 h1 h2
  obtain ⟨z, e0, _⟩ := DataW.trod_int Try.underlying3 h0
  obtain ⟨c, e1, _⟩ := DataW.trod_int Try.underlying3 h1
  obtain ⟨p, e2⟩ := trod_page h2
  refine ⟨⟨z, c, p⟩, ?_⟩
  unfold plC
  have s3 : (cs.drop 2).take 7 = cs.drop 2 := List.take_of_length_le (by rw [List.length_drop]; omega)
  have s2 : cs.drop 2 = pgC p := s3.symm.trans e2
  have s1 : cs.drop 1 = [Value.int .i64 c] ++ pgC p := by
    rw [← List.take_append_drop 1 (cs.drop 1), List.drop_drop]
    exact congr (congrArg _ e1) s2
  have s0 : cs = [Value.int .i64 z] ++ ([Value.int .i64 c] ++ pgC p) := by
    conv => lhs; rw [← List.take_append_drop 1 cs]
    exact congr (congrArg _ e0) s1
  rw [s0]
  simp

set_option maxRecDepth 100000 in
theorem open_Places {base : Nat} {v : Value} {d : DataW H} {p : List MemPlace} (hval : Value.okWide Try.prog W .any base 27 v) (h : DataW.Trod enc Try.prog W 0 (fun _ => true) true 27 v d p) :
    ∃ A n cap xs, v = .slice A n cap ∧ ReadsL W A n cap xs := by
  obtain ⟨A, n, cap, rfl⟩ := okWide_slice Try.underlying27 hval
  obtain ⟨fuel, hf⟩ := h
  refine ⟨A, n, cap, ?_⟩
  rcases Go.Deep.open_slice Try.underlying27 hf with ⟨hc, _⟩ | ⟨a, len, cap', m, fu, D, Pl, hc, _, hle, hmx, hm, _, hi⟩
  · simp only [Value.cells, List.cons.injEq, Value.slice.injEq, and_true] at hc
    obtain ⟨rfl, rfl, rfl⟩ := hc
    exact ⟨[], rfl, ReadsL.none W⟩
  · simp only [Value.cells, List.cons.injEq, Value.slice.injEq, and_true] at hc
    obtain ⟨rfl, rfl, rfl⟩ := hc
    simp only [if_true] at hm
    have hC : Try.prog.cellsOf 48 = 9 := by kernel_rfl
    have key : ∀ j, j < n → ∃ b : PlM, ∀ i v, (plC b)[i]? = some v → W.cell? (a.add (j * 9 + i)) = some v := by
      intro j hj
      obtain ⟨cs', hcs, ht⟩ := hi j (by omega)
      rw [hC] at hcs
      obtain ⟨b, rfl⟩ := trod_place ht
      obtain ⟨_, _, hat⟩ := World.cells?_some hcs
      refine ⟨b, fun i v hv => ?_⟩
      have hlt : i < 9 := by rw [← plC_len b]; exact (List.getElem?_eq_some_iff.1 hv).1
      rw [← Go.Deep.add_add]
      exact (hat i hlt).trans hv
    refine ⟨(List.range n).map fun j => if h : j < n then (key j h).choose else pl0, rfl, by simp, hle, hmx, fun hn => ?_⟩
    · have g := (key 0 hn).choose_spec 0 _ rfl
      have ha : a = ⟨a.block, a.off, none⟩ := no_spot (W := W) (by simpa [Addr.add] using g)
      refine ⟨a.block, a.off, congrArg some ha, ?_, ?_⟩
      · have := World.block_lt_of_cell? W _ g
        revert this
        unfold Addr.add
        simp
      · intro j x hx
        have hj : j < n := by
          have := (List.getElem?_eq_some_iff.1 hx).1
          simpa using this
        have e : x = (key j hj).choose := by
          rw [List.getElem?_map, List.getElem?_range hj] at hx
          simp only [Option.map_some, Option.some.injEq] at hx
          rw [dif_pos hj] at hx
          exact hx.symm
        rw [e]
        intro i v hv
        have := (key j hj).choose_spec i v hv
        rw [ha] at this
        rw [Nat.add_assoc]
        unfold Addr.add at this
        split at this
        · rename_i h0; rw [h0, Nat.add_zero]; exact this
        · exact this
end
end Go.Proofs.Ytfpfcmgcfbkolaa
