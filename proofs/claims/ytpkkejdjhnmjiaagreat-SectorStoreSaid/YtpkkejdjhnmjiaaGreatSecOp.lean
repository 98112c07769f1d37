/- What arguments that are slices of elements of one kind read as; integers, words, bools and arrays of words that come by value. | What arguments of sectors of four words read as. | What the arguments of layer sector's statements read as. -/
import Derived.Test.YtpkkejdjhnmjiaaGreatKd
import Derived.Deep.Slices
import Derived.Deep.Fields
import Derived.ChangeSame
import Derived.Test.YtpkkejdjhnmjiaaGreatV4
namespace Go.Proofs.YtpkkejdjhnmjiaaGreat
open Go.ChangeShapes Go.WideShapes Go.ChangeAt Go.RowKit Bm
section
variable {H : Type} {enc : TypeId × Value → H} {P : Program} {W : World}
theorem cut_int {k : IntKind} {f : TypeId} {fuel : Nat} {cs : List Value} {y : Option (DataW H × List MemPlace)} {c : Value} (hf : P.underlying f = some (.int k)) (hc : cs = [c]) (h : DataW.trod enc P W 0 (fun _ => true) true fuel f cs = y) (hy : y.isSome = true) :
    ∃ z, c = .int k z ∧ (Lit.int k z).wf = true := by
  obtain ⟨x, rfl⟩ := Option.isSome_iff_exists.1 hy
  rw [hc] at h
  obtain ⟨z, e1, _, wz⟩ := DataW.trod_int hf h
  simp only [List.cons.injEq, and_true] at e1
  exact ⟨z, e1, wz⟩
theorem cut_word {f : TypeId} {fuel : Nat} {cs : List Value} {y : Option (DataW H × List MemPlace)} {c : Value} (hf : P.underlying f = some (.int .u32)) (hc : cs = [c]) (h : DataW.trod enc P W 0 (fun _ => true) true fuel f cs = y) (hy : y.isSome = true) : ∃ x : BitVec 32, c = .int .u32 (U x) := by
  obtain ⟨z, rfl, wz⟩ := cut_int hf hc h hy
  have b := bounds_u32 wz
  obtain ⟨x, rfl⟩ := U_of b.1 (by omega)
  exact ⟨x, rfl⟩
theorem spotless {a : Addr} {v : Value} (h : W.cell? a = some v) : a = ⟨a.block, a.off, none⟩ := by
  have : a.spot = none := by
    cases hs : a.spot with
    | none => rfl
    | some s => unfold World.cell? at h; simp only [hs] at h; split at h <;> simp at h
  cases a
  simp_all
theorem open_rows {α : Type} (K : Kd α) (R : α → Prop) {SL T : TypeId} (hS : P.underlying SL = some (.slice T)) (hC : P.cellsOf T = K.k)
    (hE : ∀ fuel cs y, cs.length = K.k → DataW.trod enc P W 0 (fun _ => true) true fuel T cs = some y → ∃ x, R x ∧ cs = K.c x)
    {fuel : Nat} {c : Value} {y : DataW H × List MemPlace} (h : DataW.trod enc P W 0 (fun _ => true) true fuel SL [c] = some y) :
    ∃ A n cap xs, c = .slice A n cap ∧ K.Reads W A n cap xs ∧ ∀ x ∈ xs, R x := by
  rcases Go.Deep.open_slice hS h with ⟨hc, _⟩ | ⟨a, n, cap, m, fu, D, Pl, hc, _, hle, hmx, hm, _, hi⟩
  · simp only [List.cons.injEq, and_true] at hc
    subst hc
    exact ⟨none, 0, 0, [], rfl, Kd.Reads.none W, fun x hx => (by cases hx)⟩
  · simp only [List.cons.injEq, and_true] at hc
    subst hc
    simp only [if_true] at hm
    have key : ∀ j, j < n → ∃ x : α, R x ∧ ∀ i v, (K.c x)[i]? = some v → W.cell? (a.add (j * K.k + i)) = some v := by
      intro j hj
      obtain ⟨cs', hcs, ht⟩ := hi j (by omega)
      rw [hC] at hcs
      obtain ⟨_, hl, hat⟩ := World.cells?_some hcs
      obtain ⟨x, hR, rfl⟩ := hE _ _ _ hl ht
      refine ⟨x, hR, fun i v hv => ?_⟩
      have hlt : i < K.k := by rw [← K.len x]; exact (List.getElem?_eq_some_iff.1 hv).1
      rw [← Go.Deep.add_add]
      exact (hat i hlt).trans hv
    refine ⟨some a, n, cap, (List.range n).map fun j => if h : j < n then (key j h).choose else K.d, rfl, ⟨by simp, hle, hmx, fun hn => ?_⟩, ?_⟩
    · obtain ⟨v, hv⟩ : ∃ v, (K.c (key 0 hn).choose)[0]? = some v := ⟨_, List.getElem?_eq_getElem (by rw [K.len]; exact K.pos)⟩
      have g := (key 0 hn).choose_spec.2 0 v hv
      have hb := World.block_lt_of_cell? W _ g
      have ha0 : a.add (0 * K.k + 0) = a := by unfold Addr.add; simp
      rw [ha0] at g hb
      have ha := spotless g
      refine ⟨a.block, a.off, by rw [← ha], hb, fun j x hx i v hv => ?_⟩
      have hj : j < n := by
        have := (List.getElem?_eq_some_iff.1 hx).1
        simpa using this
      have e : x = (key j hj).choose := by
        rw [List.getElem?_map, List.getElem?_range hj] at hx
        simp only [Option.map_some, Option.some.injEq] at hx
        rw [dif_pos hj] at hx
        exact hx.symm
      subst e
      have := (key j hj).choose_spec.2 i v hv
      have e2 : a.add (j * K.k + i) = ⟨a.block, a.off + j * K.k + i, none⟩ := by
        rw [ha]
        unfold Addr.add
        split
        · rename_i h0
          have : j * K.k + i = 0 := by simpa using h0
          simp
          omega
        · simp
      rwa [e2] at this
    · intro x hx
      obtain ⟨j, hj, rfl⟩ := List.mem_map.1 hx
      have hj' : j < n := by simpa using hj
      rw [dif_pos hj']
      exact (key j hj').choose_spec.1
end
end Go.Proofs.YtpkkejdjhnmjiaaGreat

namespace Go.Proofs.YtpkkejdjhnmjiaaGreat
open Go.ChangeShapes Go.WideShapes Go.ChangeAt Go.RowKit Bm
section
variable {H : Type} {enc : TypeId × Value → H} {W : World}
set_option maxRecDepth 100000 in
theorem trod_v4 {fuel : Nat} {cs : List Value} {y : DataW H × List MemPlace} (hl : cs.length = 4) (h : DataW.trod enc Tryz.prog W 0 (fun _ => true) true fuel 43 cs = some y) : ∃ v, cs = v4C v := by
  obtain ⟨ys, m, _, _, _, hyl, hj⟩ := DataW.trod_array Tryz.underlying43 h
  have one0 : Tryz.prog.cellsOf 36 = 1 := by kernel_rfl
  match cs, hl with
  | [c0, c1, c2, c3], _ =>
    have k0 := hj 0 (by omega)
    have k1 := hj 1 (by omega)
    have k2 := hj 2 (by omega)
    have k3 := hj 3 (by omega)
    simp only [one0] at k0 k1 k2 k3
    obtain ⟨d0, rfl⟩ := cut_word Tryz.underlying36 rfl k0 (by simp [hyl])
    obtain ⟨d1, rfl⟩ := cut_word Tryz.underlying36 rfl k1 (by simp [hyl])
    obtain ⟨d2, rfl⟩ := cut_word Tryz.underlying36 rfl k2 (by simp [hyl])
    obtain ⟨d3, rfl⟩ := cut_word Tryz.underlying36 rfl k3 (by simp [hyl])
    exact ⟨⟨d0, d1, d2, d3⟩, rfl⟩
set_option maxRecDepth 100000 in
theorem agg_of {t : TypeId} {v : Value} {base : Nat} {fs : Array Field} (hu : Tryz.prog.underlying t = some (.struct fs)) (hval : Value.okWide Tryz.prog W .any base t v) : ∃ cs, v = .agg cs ∧ cs.size = Tryz.prog.cellsOf t := by
  simp only [Value.okWide, hu] at hval
  obtain ⟨cs, h1, h2, _⟩ := hval
  exact ⟨cs, h1, h2⟩
end
end Go.Proofs.YtpkkejdjhnmjiaaGreat

namespace Go.Proofs.YtpkkejdjhnmjiaaGreat
open Go.ChangeShapes Go.WideShapes Go.ChangeAt Go.RowKit Bm
theorem us_map (ws : List (BitVec 32)) : (ws.map U).map (Value.int .u32) = Us ws := by
  rw [List.map_map]
  rfl
structure Act10 where
  kind : Int
  reg : Int
  v : BitVec 32
  deriving DecidableEq, Inhabited
def act10C (a : Act10) : List Value := [.int .u8 a.kind, .int .i64 a.reg, .int .u32 (U a.v)]
theorem act10_one (a : Act10) : ∀ u ∈ act10C a, u.oneCell' = true := by
  intro u hu
  simp only [act10C, List.mem_cons, List.not_mem_nil, or_false] at hu
  rcases hu with rfl | rfl | rfl <;> rfl
def act10K : Kd Act10 := ⟨act10C, 3, ⟨0, 0, 0#32⟩, fun _ => rfl, act10_one, by decide⟩
def Act10.Ok (a : Act10) : Prop := (Lit.int .u8 a.kind).wf = true ∧ (Lit.int .i64 a.reg).wf = true
section
variable {H : Type} {enc : TypeId × Value → H} {W : World}
set_option maxRecDepth 100000 in
theorem trod_act10 {fuel : Nat} {cs : List Value} {y : DataW H × List MemPlace} (hl : cs.length = 3) (h : DataW.trod enc Tryz.prog W 0 (fun _ => true) true fuel 66 cs = some y) : ∃ a : Act10, a.Ok ∧ cs = act10C a := by
  obtain ⟨xs, n, _, _, _, hxl, hi⟩ := DataW.trod_struct Tryz.underlying66 h
  have xl : xs.length = 3 := hxl
  have one0 : Tryz.prog.cellsOf 5 = 1 := by kernel_rfl
  have one1 : Tryz.prog.cellsOf 3 = 1 := by kernel_rfl
  have one2 : Tryz.prog.cellsOf 36 = 1 := by kernel_rfl
  match cs, hl with
  | [c0, c1, c2], _ =>
    have h0 := hi 0 _ rfl
    have h1 := hi 1 _ rfl
    have h2 := hi 2 _ rfl
    simp only [List.getElem_toArray, List.getElem_cons_zero, List.getElem_cons_succ, one0, one1, one2] at h0 h1 h2
    obtain ⟨k, rfl, wk⟩ := cut_int Tryz.underlying5 rfl h0 (by simp [xl])
    obtain ⟨r, rfl, wr⟩ := cut_int Tryz.underlying3 rfl h1 (by simp [xl])
    obtain ⟨v, rfl⟩ := cut_word Tryz.underlying36 rfl h2 (by simp [xl])
    exact ⟨⟨k, r, v⟩, ⟨wk, wr⟩, rfl⟩
theorem v4s_of : ∀ (n : Nat) (cs : List Value), cs.length = n * 4 → (∀ j, j < n → ∃ x, (cs.drop (j * 4)).take 4 = v4C x) → ∃ l : List V4, l.length = n ∧ cs = v4K.all l
  | 0, cs, h, _ => ⟨[], rfl, List.eq_nil_of_length_eq_zero (by omega)⟩
  | n + 1, cs, h, hx => by
    obtain ⟨x, e⟩ := hx 0 (by omega)
    obtain ⟨l, hl, e2⟩ := v4s_of n (cs.drop 4) (by rw [List.length_drop]; omega) (fun j hj => by
      obtain ⟨y, ey⟩ := hx (j + 1) (by omega)
      refine ⟨y, ?_⟩
      rw [List.drop_drop, show 4 + j * 4 = (j + 1) * 4 by omega]
      exact ey)
    refine ⟨x :: l, by rw [List.length_cons, hl], ?_⟩
    rw [Nat.zero_mul, List.drop_zero] at e
    show cs = v4K.all ([x] ++ l)
    rw [v4K.all_app, v4K.all_sing, ← e2]
    show cs = v4C x ++ cs.drop 4
    rw [← e, List.take_append_drop]
set_option maxRecDepth 100000 in
theorem open_Act10s {base : Nat} {v : Value} {d : DataW H} {p : List MemPlace} (hval : Value.okWide Tryz.prog W .any base 22 v) (h : DataW.Trod enc Tryz.prog W 0 (fun _ => true) true 22 v d p) : ∃ A cap xs, v = .slice A xs.length cap ∧ (∀ a ∈ xs, Act10.Ok a) ∧ act10K.Reads W A xs.length cap xs := by
  obtain ⟨A, n, cap, rfl⟩ := okWide_slice Tryz.underlying22 hval
  obtain ⟨fuel, hf⟩ := h
  obtain ⟨A', n', cap', xs, e, hr, hx⟩ := open_rows act10K Act10.Ok Tryz.underlying22 (by kernel_rfl) (fun fuel cs y hl h => trod_act10 hl h) hf
  cases e
  obtain rfl := hr.len
  exact ⟨A, cap, xs, rfl, hx, hr⟩
end
end Go.Proofs.YtpkkejdjhnmjiaaGreat
