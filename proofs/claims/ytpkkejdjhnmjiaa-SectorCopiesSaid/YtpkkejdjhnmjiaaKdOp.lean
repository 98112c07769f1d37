/- What arguments that are slices of elements of one kind read as; integers, words, bools and arrays of words that come by value. -/
import Derived.Test.YtpkkejdjhnmjiaaKd
import Derived.Deep.Slices
import Derived.Deep.Fields
import Derived.ChangeSame
namespace Go.Proofs.Ytpkkejdjhnmjiaa
open Go.ChangeShapes Go.WideShapes Go.ChangeAt Go.RowKit Bm

section
variable {H : Type} {enc : TypeId × Value → H} {P : Program} {W : World}
theorem cut_int {k : IntKind} {f : TypeId} {fuel : Nat} {cs : List Value} {y : Option (DataW H × List MemPlace)} {c : Value} (hf : P.underlying f = some (.int k)) (hc : cs = [c]) (h : DataW.trod enc P W 0 (fun _ => true) true fuel f cs = y) (hy : y.isSome = true) :
    ∃ z, c = .int k z ∧ (Lit.int k z).wf = true := by
  obtain ⟨x, rfl⟩ := Option.isSome_iff_exists.1 hy
  rw [hc] at h
  obtain ⟨z, e1, _, wz⟩ := DataW.trod_int hf h
  simp only [List.cons.injEq, and_true] at e1
  exact ⟨z, e1, wz⟩
theorem cut_word {f : TypeId} {fuel : Nat} {cs : List Value} {y : Option (DataW H × List MemPlace)} {c : Value} (hf : P.underlying f = some (.int .u32)) (hc : cs = [c]) (h : DataW.trod enc P W 0 (fun _ => true) true fuel f cs = y) (hy : y.isSome = true) : ∃ x : BitVec 32, c = .int .u32 (U x) := by
  obtain ⟨z, rfl, wz⟩ := cut_int hf hc h hy
  have b := bounds_u32 wz
  obtain ⟨x, rfl⟩ := U_of b.1 (by omega)
  exact ⟨x, rfl⟩
theorem cut_bool {f : TypeId} {fuel : Nat} {cs : List Value} {y : Option (DataW H × List MemPlace)} {c : Value} (hf : P.underlying f = some .bool) (hc : cs = [c]) (h : DataW.trod enc P W 0 (fun _ => true) true fuel f cs = y) (hy : y.isSome = true) : ∃ b : Bool, c = .bool b := by
  obtain ⟨x, rfl⟩ := Option.isSome_iff_exists.1 hy
  rw [hc] at h
  obtain ⟨b, e1, _⟩ := DataW.trod_bool hf h
  simp only [List.cons.injEq, and_true] at e1
  exact ⟨b, e1⟩
/-- A place whose first cell is read is no spot. -/
theorem spotless {a : Addr} {v : Value} (h : W.cell? a = some v) : a = ⟨a.block, a.off, none⟩ := by
  have : a.spot = none := by
    cases hs : a.spot with
    | none => rfl
    | some s => unfold World.cell? at h; simp only [hs] at h; split at h <;> simp at h
  cases a
  simp_all

/-- A slice of elements of one kind. -/
theorem open_rows {α : Type} (K : Kd α) (R : α → Prop) {SL T : TypeId} (hS : P.underlying SL = some (.slice T)) (hC : P.cellsOf T = K.k)
    (hE : ∀ fuel cs y, cs.length = K.k → DataW.trod enc P W 0 (fun _ => true) true fuel T cs = some y → ∃ x, R x ∧ cs = K.c x)
    {fuel : Nat} {c : Value} {y : DataW H × List MemPlace} (h : DataW.trod enc P W 0 (fun _ => true) true fuel SL [c] = some y) :
    ∃ A n cap xs, c = .slice A n cap ∧ K.Reads W A n cap xs ∧ ∀ x ∈ xs, R x := by
  rcases Go.Deep.open_slice hS h with ⟨hc, _⟩ | ⟨a, n, cap, m, fu, D, Pl, hc, _, hle, hmx, hm, _, hi⟩
  · simp only [List.cons.injEq, and_true] at hc
    subst hc
    exact ⟨none, 0, 0, [], rfl, Kd.Reads.none W, fun x hx => (by cases hx)⟩
  · simp only [List.cons.injEq, and_true] at hc
    subst hc
    simp only [if_true] at hm
    have key : ∀ j, j < n → ∃ x : α, R x ∧ ∀ i v, (K.c x)[i]? = some v → W.cell? (a.add (j * K.k + i)) = some v := by
      intro j hj
      obtain ⟨cs', hcs, ht⟩ := hi j (by omega)
      rw [hC] at hcs
      obtain ⟨_, hl, hat⟩ := World.cells?_some hcs
      obtain ⟨x, hR, rfl⟩ := hE _ _ _ hl ht
      refine ⟨x, hR, fun i v hv => ?_⟩
      have hlt : i < K.k := by rw [← K.len x]; exact (List.getElem?_eq_some_iff.1 hv).1
      rw [← Go.Deep.add_add]
      exact (hat i hlt).trans hv
    refine ⟨some a, n, cap, (List.range n).map fun j => if h : j < n then (key j h).choose else K.d, rfl, ⟨by simp, hle, hmx, fun hn => ?_⟩, ?_⟩
    · obtain ⟨v, hv⟩ : ∃ v, (K.c (key 0 hn).choose)[0]? = some v := ⟨_, List.getElem?_eq_getElem (by rw [K.len]; exact K.pos)⟩
      have g := (key 0 hn).choose_spec.2 0 v hv
      have hb := World.block_lt_of_cell? W _ g
      have ha0 : a.add (0 * K.k + 0) = a := by unfold Addr.add; simp
      rw [ha0] at g hb
      have ha := spotless g
      refine ⟨a.block, a.off, by rw [← ha], hb, fun j x hx i v hv => ?_⟩
      have hj : j < n := by
        have := (List.getElem?_eq_some_iff.1 hx).1
        simpa using this
      have e : x = (key j hj).choose := by
        rw [List.getElem?_map, List.getElem?_range hj] at hx
        simp only [Option.map_some, Option.some.injEq] at hx
        rw [dif_pos hj] at hx
        exact hx.symm
      subst e
      have := (key j hj).choose_spec.2 i v hv
      have e2 : a.add (j * K.k + i) = ⟨a.block, a.off + j * K.k + i, none⟩ := by
        rw [ha]
        unfold Addr.add
        split
        · rename_i h0
          have : j * K.k + i = 0 := by simpa using h0
          simp
          omega
        · simp
      rwa [e2] at this
    · intro x hx
      obtain ⟨j, hj, rfl⟩ := List.mem_map.1 hx
      have hj' : j < n := by simpa using hj
      rw [dif_pos hj']
      exact (key j hj').choose_spec.1
end

/-- Numbers of one integer kind, one cell each. -/
def intK (k : IntKind) : Kd Int := ⟨fun z => [.int k z], 1, 0, fun _ => rfl, fun z u hu => by simp only [List.mem_singleton] at hu; subst hu; rfl, by decide⟩
theorem intK_one {H : Type} {enc : TypeId × Value → H} {P : Program} {W : World} {k : IntKind} {T : TypeId} (hT : P.underlying T = some (.int k)) : ∀ fuel cs y, cs.length = (intK k).k → DataW.trod enc P W 0 (fun _ => true) true fuel T cs = some y → ∃ x, (Lit.int k x).wf = true ∧ cs = (intK k).c x := by
  intro fuel cs y hl h
  match cs, hl with
  | [c], _ =>
    obtain ⟨z, rfl, wz⟩ := cut_int hT rfl h rfl
    exact ⟨z, wz, rfl⟩
end Go.Proofs.Ytpkkejdjhnmjiaa
