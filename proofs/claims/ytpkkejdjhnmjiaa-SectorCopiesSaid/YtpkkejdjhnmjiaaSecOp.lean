/- What the arguments of layer sector's statements read as. -/
import Derived.Test.YtpkkejdjhnmjiaaV4Op
namespace Go.Proofs.Ytpkkejdjhnmjiaa
open Go.ChangeShapes Go.WideShapes Go.ChangeAt Go.RowKit Bm

theorem us_map (ws : List (BitVec 32)) : (ws.map U).map (Value.int .u32) = Us ws := by
  rw [List.map_map]
  rfl
/-- An act on a device: its kind, its register, its word. -/
structure Act10 where
  kind : Int
  reg : Int
  v : BitVec 32
  deriving DecidableEq, Inhabited
def act10C (a : Act10) : List Value := [.int .u8 a.kind, .int .i64 a.reg, .int .u32 (U a.v)]
theorem act10_one (a : Act10) : ∀ u ∈ act10C a, u.oneCell' = true := by
  intro u hu
  simp only [act10C, List.mem_cons, List.not_mem_nil, or_false] at hu
  rcases hu with rfl | rfl | rfl <;> rfl
def act10K : Kd Act10 := ⟨act10C, 3, ⟨0, 0, 0#32⟩, fun _ => rfl, act10_one, by decide⟩
def Act10.Ok (a : Act10) : Prop := (Lit.int .u8 a.kind).wf = true ∧ (Lit.int .i64 a.reg).wf = true
section
variable {H : Type} {enc : TypeId × Value → H} {W : World}
set_option maxRecDepth 100000 in
theorem trod_act10 {fuel : Nat} {cs : List Value} {y : DataW H × List MemPlace} (hl : cs.length = 3) (h : DataW.trod enc Try.prog W 0 (fun _ => true) true fuel 61 cs = some y) : ∃ a : Act10, a.Ok ∧ cs = act10C a := by
  obtain ⟨xs, n, _, _, _, hxl, hi⟩ := DataW.trod_struct Try.underlying61 h
  have xl : xs.length = 3 := hxl
  have one0 : Try.prog.cellsOf 5 = 1 := by kernel_rfl
  have one1 : Try.prog.cellsOf 3 = 1 := by kernel_rfl
  have one2 : Try.prog.cellsOf 31 = 1 := by kernel_rfl
  match cs, hl with
  | [c0, c1, c2], _ =>
    have h0 := hi 0 _ rfl
    have h1 := hi 1 _ rfl
    have h2 := hi 2 _ rfl
    simp only [List.getElem_toArray, List.getElem_cons_zero, List.getElem_cons_succ, one0, one1, one2] at h0 h1 h2
    obtain ⟨k, rfl, wk⟩ := cut_int Try.underlying5 rfl h0 (by simp [xl])
    obtain ⟨r, rfl, wr⟩ := cut_int Try.underlying3 rfl h1 (by simp [xl])
    obtain ⟨v, rfl⟩ := cut_word Try.underlying31 rfl h2 (by simp [xl])
    exact ⟨⟨k, r, v⟩, ⟨wk, wr⟩, rfl⟩
theorem v4s_of : ∀ (n : Nat) (cs : List Value), cs.length = n * 4 → (∀ j, j < n → ∃ x, (cs.drop (j * 4)).take 4 = v4C x) → ∃ l : List V4, l.length = n ∧ cs = v4K.all l
  | 0, cs, h, _ => ⟨[], rfl, List.eq_nil_of_length_eq_zero (by omega)⟩
  | n + 1, cs, h, hx => by
    obtain ⟨x, e⟩ := hx 0 (by omega)
    obtain ⟨l, hl, e2⟩ := v4s_of n (cs.drop 4) (by rw [List.length_drop]; omega) (fun j hj => by
      obtain ⟨y, ey⟩ := hx (j + 1) (by omega)
      refine ⟨y, ?_⟩
      rw [List.drop_drop, show 4 + j * 4 = (j + 1) * 4 by omega]
      exact ey)
    refine ⟨x :: l, by rw [List.length_cons, hl], ?_⟩
    rw [Nat.zero_mul, List.drop_zero] at e
    show cs = v4K.all ([x] ++ l)
    rw [v4K.all_app, v4K.all_sing, ← e2]
    show cs = v4C x ++ cs.drop 4
    rw [← e, List.take_append_drop]
set_option maxRecDepth 100000 in
theorem trod_v4x8 {fuel : Nat} {cs : List Value} {y : DataW H × List MemPlace} (hl : cs.length = 32) (h : DataW.trod enc Try.prog W 0 (fun _ => true) true fuel 56 cs = some y) : ∃ l : List V4, l.length = 8 ∧ cs = v4K.all l := by
  obtain ⟨ys, m, _, _, _, hyl, hj⟩ := DataW.trod_array Try.underlying56 h
  have four : Try.prog.cellsOf 39 = 4 := by kernel_rfl
  refine v4s_of 8 cs hl (fun j hj8 => ?_)
  have k := hj j hj8
  rw [List.getElem?_eq_getElem (by omega)] at k
  simp only [four] at k
  obtain ⟨x, ex⟩ := trod_v4 (by rw [List.length_take, List.length_drop]; omega) k
  exact ⟨x, ex⟩
set_option maxRecDepth 100000 in
theorem open_Copy10 {base : Nat} {v : Value} {d : DataW H} {p : List MemPlace} (hval : Value.okWide Try.prog W .any base 58 v) (h : DataW.Trod enc Try.prog W 0 (fun _ => true) true 58 v d p) :
    ∃ (l : List V4) (f t m : Int), l.length = 8 ∧ v = .agg (v4K.all l ++ [Value.int .u8 f, .int .u8 t, .int .u8 m]).toArray ∧ (Lit.int .u8 f).wf = true ∧ (Lit.int .u8 t).wf = true ∧ (Lit.int .u8 m).wf = true := by
  obtain ⟨cs, rfl, hsz⟩ := agg_of Try.underlying58 hval
  have hC : Try.prog.cellsOf 58 = 35 := by kernel_rfl
  have one0 : Try.prog.cellsOf 5 = 1 := by kernel_rfl
  have big : Try.prog.cellsOf 56 = 32 := by kernel_rfl
  obtain ⟨fuel, hf⟩ := h
  obtain ⟨xs, n, _, _, _, hxl, hi⟩ := DataW.trod_struct Try.underlying58 hf
  simp only [Value.cells] at hi
  rw [hC] at hsz
  obtain ⟨ls, rfl⟩ : ∃ ls : List Value, cs = ls.toArray := ⟨cs.toList, by simp⟩
  have hl : ls.length = 35 := by simpa using hsz
  have xl : xs.length = 4 := hxl
  obtain ⟨c0, c1, c2, e3⟩ : ∃ c0 c1 c2, ls.drop 32 = [c0, c1, c2] := by
    have hd : (ls.drop 32).length = 3 := by rw [List.length_drop, hl]
    match hh : ls.drop 32, hd with
    | [c0, c1, c2], _ => exact ⟨c0, c1, c2, rfl⟩
  have h0 := hi 0 _ rfl
  have h1 := hi 1 _ rfl
  have h2 := hi 2 _ rfl
  have h3 := hi 3 _ rfl
  simp only [List.getElem_toArray, List.getElem_cons_zero, List.getElem_cons_succ, one0, big] at h0 h1 h2 h3
  have e32 : (ls.drop 32).take 1 = [c0] := by rw [e3]; rfl
  have e33 : (ls.drop 33).take 1 = [c1] := by rw [show ls.drop 33 = (ls.drop 32).drop 1 by rw [List.drop_drop], e3]; rfl
  have e34 : (ls.drop 34).take 1 = [c2] := by rw [show ls.drop 34 = (ls.drop 32).drop 2 by rw [List.drop_drop], e3]; rfl
  rw [e32] at h1
  rw [e33] at h2
  rw [e34] at h3
  rw [List.drop_zero, List.getElem?_eq_getElem (by omega)] at h0
  obtain ⟨l, hl8, el⟩ := trod_v4x8 (by rw [List.length_take, hl]; rfl) h0
  obtain ⟨f, rfl, wf⟩ := cut_int Try.underlying5 rfl h1 (by simp [xl])
  obtain ⟨t, rfl, wt⟩ := cut_int Try.underlying5 rfl h2 (by simp [xl])
  obtain ⟨m, rfl, wm⟩ := cut_int Try.underlying5 rfl h3 (by simp [xl])
  refine ⟨l, f, t, m, hl8, ?_, wf, wt, wm⟩
  rw [← el, ← e3, List.take_append_drop]
set_option maxRecDepth 100000 in
theorem open_Act10s {base : Nat} {v : Value} {d : DataW H} {p : List MemPlace} (hval : Value.okWide Try.prog W .any base 22 v) (h : DataW.Trod enc Try.prog W 0 (fun _ => true) true 22 v d p) : ∃ A cap xs, v = .slice A xs.length cap ∧ (∀ a ∈ xs, Act10.Ok a) ∧ act10K.Reads W A xs.length cap xs := by
  obtain ⟨A, n, cap, rfl⟩ := okWide_slice Try.underlying22 hval
  obtain ⟨fuel, hf⟩ := h
  obtain ⟨A', n', cap', xs, e, hr, hx⟩ := open_rows act10K Act10.Ok Try.underlying22 (by kernel_rfl) (fun fuel cs y hl h => trod_act10 hl h) hf
  cases e
  obtain rfl := hr.len
  exact ⟨A, cap, xs, rfl, hx, hr⟩
end
end Go.Proofs.Ytpkkejdjhnmjiaa
