/- What arguments that are blocks, slices of them, and slices of slices of pages, read as. -/
import Derived.Test.YtfpfcmgcfbkolaaPageOpens
import Derived.Test.YtfpfcmgcfbkolaaScanBuilt
import Derived.Test.YtfpfcmgcfbkolaaScanRows
namespace Go.Proofs.Ytfpfcmgcfbkolaa
open Go.ChangeShapes Go.WideShapes Go.ChangeAt Go.RowKit Bm

section
variable {H : Type} {enc : TypeId × Value → H} {W : World}

set_option maxRecDepth 100000 in
theorem trod_page {fuel : Nat} {cs : List Value} {x : DataW H × List MemPlace} (h : DataW.trod enc Try.prog W 0 (fun _ => true) true fuel 46 cs = some x) : ∃ p, cs = pgC p := by
  have hC : Try.prog.cellsOf 46 = 7 := by kernel_rfl
  obtain ⟨xs, n, _, _, hsz, hxl, hi⟩ := DataW.trod_struct Try.underlying46 h
  rw [hC] at hsz
  obtain ⟨c0, c1, c2, c3, c4, c5, c6, rfl⟩ := list_seven (l := cs) hsz
  have xl : xs.length = 4 := hxl
  have one0 : Try.prog.cellsOf 34 = 1 := by kernel_rfl
  have one1 : Try.prog.cellsOf 4 = 1 := by kernel_rfl
  have four : Try.prog.cellsOf 38 = 4 := by kernel_rfl
  have h0 := hi 0 _ rfl
  have h1 := hi 1 _ rfl
  have h2 := hi 2 _ rfl
  have h3 := hi 3 _ rfl
  simp only [List.getElem_toArray, List.getElem_cons_zero, List.getElem_cons_succ, one0, one1, four] at h0 h1 h2 h3
  obtain ⟨s, rfl⟩ := cell_word rfl h0 (by simp [xl])
  obtain ⟨q, rfl⟩ := cell_word rfl h1 (by simp [xl])
  obtain ⟨g, rfl⟩ := cell_bool rfl h2 (by simp [xl])
  obtain ⟨y, hy⟩ : ∃ y, xs[3]? = some y := ⟨_, List.getElem?_eq_getElem (by omega)⟩
  rw [hy] at h3
  obtain ⟨ys, m, _, _, _, hyl, hj⟩ := DataW.trod_array Try.underlying38 h3
  have k0 := hj 0 (by omega)
  have k1 := hj 1 (by omega)
  have k2 := hj 2 (by omega)
  have k3 := hj 3 (by omega)
  simp only [one0] at k0 k1 k2 k3
  obtain ⟨d0, rfl⟩ := cell_word rfl k0 (by simp [hyl])
  obtain ⟨d1, rfl⟩ := cell_word rfl k1 (by simp [hyl])
  obtain ⟨d2, rfl⟩ := cell_word rfl k2 (by simp [hyl])
  obtain ⟨d3, rfl⟩ := cell_word rfl k3 (by simp [hyl])
  exact ⟨⟨s, q, g, d0, d1, d2, d3⟩, rfl⟩

/-- Elements of one size, one behind the other. -/
theorem rows_of {α : Type} (f : α → List Value) (n : Nat) : ∀ (k : Nat) (cs : List Value), cs.length = k * n → (∀ i, i < k → ∃ p, (cs.drop (i * n)).take n = f p) → ∃ ps : List α, ps.length = k ∧ cs = ps.flatMap f
  | 0, cs, hl, _ => ⟨[], rfl, by have : cs = [] := List.eq_nil_of_length_eq_zero (by omega); rw [this]; rfl⟩
  | k + 1, cs, hl, h => by
    have hlen : (cs.drop n).length = k * n := by rw [List.length_drop, hl, Nat.succ_mul]; omega
    obtain ⟨ps, hp, e⟩ := rows_of f n k (cs.drop n) hlen (fun i hi => by
      obtain ⟨p, hp⟩ := h (i + 1) (by omega)
      exact ⟨p, by rw [List.drop_drop, ← hp, Nat.succ_mul, Nat.add_comm]⟩)
    obtain ⟨p, h0⟩ := h 0 (by omega)
    rw [Nat.zero_mul, List.drop_zero] at h0
    exact ⟨p :: ps, by simp [hp], by rw [List.flatMap_cons, ← e, ← h0, List.take_append_drop]⟩

set_option maxRecDepth 100000 in
theorem trod_pages8 {fuel : Nat} {cs : List Value} {x : DataW H × List MemPlace} (h : DataW.trod enc Try.prog W 0 (fun _ => true) true fuel 53 cs = some x) : ∃ ps : List PageM, ps.length = 8 ∧ cs = pgs ps := by
  have hC : Try.prog.cellsOf 46 = 7 := by kernel_rfl
  have hC8 : Try.prog.cellsOf 53 = 56 := by kernel_rfl
  obtain ⟨xs, m, _, _, hsz, hxl, hj⟩ := DataW.trod_array Try.underlying53 h
  rw [hC8] at hsz
  refine rows_of pgC 7 8 cs hsz fun i hi => ?_
  have g := hj i hi
  rw [hC, List.getElem?_eq_getElem (by omega)] at g
  exact trod_page g

set_option maxRecDepth 100000 in
theorem trod_ints8 {fuel : Nat} {cs : List Value} {x : DataW H × List MemPlace} (h : DataW.trod enc Try.prog W 0 (fun _ => true) true fuel 52 cs = some x) : ∃ zs : List Int, zs.length = 8 ∧ cs = Is zs := by
  have hC : Try.prog.cellsOf 3 = 1 := by kernel_rfl
  have hC8 : Try.prog.cellsOf 52 = 8 := by kernel_rfl
  obtain ⟨xs, m, _, _, hsz, hxl, hj⟩ := DataW.trod_array Try.underlying52 h
  rw [hC8] at hsz
  obtain ⟨zs, h1, h2⟩ := rows_of (fun z : Int => [Value.int .i64 z]) 1 8 cs hsz fun i hi => by
    have g := hj i hi
    rw [hC, List.getElem?_eq_getElem (by omega)] at g
    obtain ⟨z, e1, _⟩ := DataW.trod_int Try.underlying3 g
    exact ⟨z, e1⟩
  refine ⟨zs, h1, h2.trans ?_⟩
  unfold Is
  clear h1 h2
  induction zs with
  | nil => rfl
  | cons z zs ih => rw [List.flatMap_cons, List.map_cons, ih]; rfl

set_option maxRecDepth 100000 in
theorem trod_block {fuel : Nat} {cs : List Value} {x : DataW H × List MemPlace} (h : DataW.trod enc Try.prog W 0 (fun _ => true) true fuel 55 cs = some x) : ∃ b, BlkOk b ∧ cs = bkC b := by
  have hC : Try.prog.cellsOf 55 = 66 := by kernel_rfl
  obtain ⟨xs, n, _, _, hsz, hxl, hi⟩ := DataW.trod_struct Try.underlying55 h
  rw [hC] at hsz
  have xl : xs.length = 4 := hxl
  have one0 : Try.prog.cellsOf 3 = 1 := by kernel_rfl
  have one1 : Try.prog.cellsOf 34 = 1 := by kernel_rfl
  have eight : Try.prog.cellsOf 52 = 8 := by kernel_rfl
  have many : Try.prog.cellsOf 53 = 56 := by kernel_rfl
  have h0 := hi 0 _ rfl
  have h1 := hi 1 _ rfl
  have h2 := hi 2 _ rfl
  have h3 := hi 3 _ rfl
  simp only [List.getElem_toArray, List.getElem_cons_zero, List.getElem_cons_succ, one0, one1, eight, many] at h0 h1 h2 h3
  rw [List.getElem?_eq_getElem (by omega)] at h0 h1 h2 h3
  obtain ⟨z, e0, _⟩ := DataW.trod_int Try.underlying3 h0
  obtain ⟨c, e1, _, wc⟩ := DataW.trod_int Try.underlying34 h1
  obtain ⟨zs, hz, e2⟩ := trod_ints8 h2
  obtain ⟨ps, hp, e3⟩ := trod_pages8 h3
  have b := bounds_u32 wc
  obtain ⟨k, rfl⟩ := U_of b.1 (by omega)
  refine ⟨⟨z, k, zs, ps⟩, ⟨hz, hp⟩, ?_⟩
  unfold bkC
  have s3 : (cs.drop 10).take 56 = cs.drop 10 := List.take_of_length_le (by rw [List.length_drop]; omega)
  have s2 : cs.drop 2 = Is zs ++ pgs ps := by
    rw [← List.take_append_drop 8 (cs.drop 2), List.drop_drop]
    exact congr (congrArg _ e2) (s3.symm.trans e3)
  have s1 : cs.drop 1 = [Value.int .u32 (U k)] ++ (Is zs ++ pgs ps) := by
    rw [← List.take_append_drop 1 (cs.drop 1), List.drop_drop]
    exact congr (congrArg _ e1) s2
  have s0 : cs = [Value.int .i64 z] ++ ([Value.int .u32 (U k)] ++ (Is zs ++ pgs ps)) := by
    conv => lhs; rw [← List.take_append_drop 1 cs]
    exact congr (congrArg _ e0) s1
  rw [s0]
  simp


/-- A place whose first cell is read is no spot. -/
theorem no_spot {a : Addr} {v : Value} (h : W.cell? a = some v) : a = ⟨a.block, a.off, none⟩ := by
  have : a.spot = none := by
    cases hs : a.spot with
    | none => rfl
    | some s => unfold World.cell? at h; simp only [hs] at h; split at h <;> simp at h
  cases a
  simp_all

set_option maxRecDepth 100000 in
theorem open_Blocks {base : Nat} {v : Value} {d : DataW H} {p : List MemPlace} (hval : Value.okWide Try.prog W .any base 22 v) (h : DataW.Trod enc Try.prog W 0 (fun _ => true) true 22 v d p) :
    ∃ A n cap bs, v = .slice A n cap ∧ ReadsB W A n cap bs := by
  obtain ⟨A, n, cap, rfl⟩ := okWide_slice Try.underlying22 hval
  obtain ⟨fuel, hf⟩ := h
  refine ⟨A, n, cap, ?_⟩
  rcases Go.Deep.open_slice Try.underlying22 hf with ⟨hc, _⟩ | ⟨a, len, cap', m, fu, D, Pl, hc, _, hle, hmx, hm, _, hi⟩
  · simp only [Value.cells, List.cons.injEq, Value.slice.injEq, and_true] at hc
    obtain ⟨rfl, rfl, rfl⟩ := hc
    exact ⟨[], rfl, ReadsB.none W⟩
  · simp only [Value.cells, List.cons.injEq, Value.slice.injEq, and_true] at hc
    obtain ⟨rfl, rfl, rfl⟩ := hc
    simp only [if_true] at hm
    have hC : Try.prog.cellsOf 55 = 66 := by kernel_rfl
    have key : ∀ j, j < n → ∃ b : BlkM, BlkOk b ∧ ∀ i v, (bkC b)[i]? = some v → W.cell? (a.add (j * 66 + i)) = some v := by
      intro j hj
      obtain ⟨cs', hcs, ht⟩ := hi j (by omega)
      rw [hC] at hcs
      obtain ⟨b, hb, rfl⟩ := trod_block ht
      obtain ⟨_, _, hat⟩ := World.cells?_some hcs
      refine ⟨b, hb, fun i v hv => ?_⟩
      have hlt : i < 66 := by rw [← bk_len hb]; exact (List.getElem?_eq_some_iff.1 hv).1
      rw [← Go.Deep.add_add]
      exact (hat i hlt).trans hv
    refine ⟨(List.range n).map fun j => if h : j < n then (key j h).choose else bk0, rfl, by simp, hle, hmx, ?_, fun hn => ?_⟩
    · intro b hb
      obtain ⟨j, hj, rfl⟩ := List.mem_map.1 hb
      have hj' : j < n := by simpa using hj
      rw [dif_pos hj']
      exact (key j hj').choose_spec.1
    · have g := (key 0 hn).choose_spec.2 0 _ (bk_head _)
      have ha : a = ⟨a.block, a.off, none⟩ := no_spot (W := W) (by simpa [Addr.add] using g)
      refine ⟨a.block, a.off, congrArg some ha, ?_, ?_⟩
      · have := World.block_lt_of_cell? W _ g
        revert this
        unfold Addr.add
        simp
      · intro j x hx
        have hj : j < n := by
          have := (List.getElem?_eq_some_iff.1 hx).1
          simpa using this
        have e : x = (key j hj).choose := by
          rw [List.getElem?_map, List.getElem?_range hj] at hx
          simp only [Option.map_some, Option.some.injEq] at hx
          rw [dif_pos hj] at hx
          exact hx.symm
        rw [e]
        intro i v hv
        have := (key j hj).choose_spec.2 i v hv
        rw [ha] at this
        rw [Nat.add_assoc]
        unfold Addr.add at this
        split at this
        · rename_i h0; rw [h0, Nat.add_zero]; exact this
        · exact this

theorem pg_head (p : PageM) : ∃ v, (pgC p)[0]? = some v := ⟨_, rfl⟩
end
end Go.Proofs.Ytfpfcmgcfbkolaa
