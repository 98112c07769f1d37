/- The document's own flash (layer cfi) by value: 77 cells, told by a list; how a walk loads and stores it whole. -/
import Derived.Test.YteiegkfoabhikaaCfiMath
import Derived.Test.YteiegkfoabhikaaNorRef8
import Derived.Deep.MidRow
import Derived.Deep.WholeRow
import Derived.Lib.Hide
namespace Go.Proofs.Yteiegkfoabhikaa
open Go.RowKit Bm

def rfTail (m : FlashM) : List Value := [.int .i64 m.job, .int .i64 m.at_, .int .u32 (U m.v), .int .i64 m.left]
def rfHead (r : Rh) (m : FlashM) : List Value := refCells r m.chip ++ [.int .i64 m.mode, .int .i64 m.wait, .int .u32 (U m.errors)]
def lockCells (l : List Bool) : List Value := (List.range 64).map fun i => Value.bool (lk l i)
def rfCells (r : Rh) (m : FlashM) : List Value := rfHead r m ++ (lockCells m.locks ++ rfTail m)
def rfVal (r : Rh) (m : FlashM) : Value := .agg (rfCells r m).toArray
def rfZero : List Value := refZero ++ [.int .i64 0, .int .i64 0, .int .u32 0] ++ (List.replicate 64 (Value.bool false) ++ [.int .i64 0, .int .i64 0, .int .u32 0, .int .i64 0])

theorem rfHead_len (r : Rh) (m : FlashM) : (rfHead r m).length = 9 := rfl
theorem lockCells_len (l : List Bool) : (lockCells l).length = 64 := by simp [lockCells]
theorem rf_len (r : Rh) (m : FlashM) : (rfCells r m).length = 77 := by
  unfold rfCells
  rw [List.length_append, List.length_append, rfHead_len, lockCells_len]
  rfl
theorem rf_head {r : Rh} {m : FlashM} (i : Nat) (hi : i < 9) : (rfCells r m)[i]? = (rfHead r m)[i]? := by
  unfold rfCells
  rw [List.getElem?_append_left (by rw [rfHead_len]; exact hi)]
theorem rf_lock (r : Rh) (m : FlashM) (i : Nat) (hi : i < 64) : (rfCells r m)[9 + i]? = some (.bool (lk m.locks i)) := by
  unfold rfCells
  rw [List.getElem?_append_right (by rw [rfHead_len]; omega), rfHead_len, show 9 + i - 9 = i by omega, List.getElem?_append_left (by rw [lockCells_len]; exact hi)]
  simp [lockCells, hi]
theorem rf_tail {r : Rh} {m : FlashM} (i : Nat) : (rfCells r m)[73 + i]? = (rfTail m)[i]? := by
  unfold rfCells
  rw [List.getElem?_append_right (by rw [rfHead_len]; omega), rfHead_len, List.getElem?_append_right (by rw [lockCells_len]; omega), lockCells_len, show 73 + i - 9 - 64 = i by omega]

theorem rf_set_head {r : Rh} {m m' : FlashM} (i : Nat) (hi : i < 9) (u : Value) (e : (rfHead r m).set i u = rfHead r m') (el : m'.locks = m.locks) (et : rfTail m' = rfTail m) : (rfCells r m).set i u = rfCells r m' := by
  unfold rfCells
  rw [List.set_append_left _ _ (by rw [rfHead_len]; exact hi), e, el, et]
theorem lockCells_set {l : List Bool} (h : l.length = 64) (i : Nat) (b : Bool) : (lockCells l).set i (.bool b) = lockCells (l.set i b) := by
  apply List.ext_getElem?
  intro j
  rw [List.getElem?_set, lockCells_len]
  by_cases hj : j < 64
  · by_cases e : i = j
    · subst e
      rw [if_pos rfl, if_pos hj]
      simp [lockCells, hj, lk_set_self l i b (by omega)]
    · rw [if_neg e]
      simp [lockCells, hj, lk_set_other l i j b e]
  · have n1 : (lockCells l)[j]? = none := List.getElem?_eq_none (by rw [lockCells_len]; omega)
    have n2 : (lockCells (l.set i b))[j]? = none := List.getElem?_eq_none (by rw [lockCells_len]; omega)
    rw [n1, n2]
    split
    · rename_i e
      rw [if_neg (by omega)]
    · rfl
theorem rf_set_lock (r : Rh) (m : FlashM) (h : m.locks.length = 64) (i : Nat) (hi : i < 64) (b : Bool) : (rfCells r m).set (9 + i) (.bool b) = rfCells r { m with locks := m.locks.set i b } := by
  unfold rfCells
  rw [List.set_append_right _ _ (by rw [rfHead_len]; omega), rfHead_len, show 9 + i - 9 = i by omega, List.set_append_left _ _ (by rw [lockCells_len]; exact hi), lockCells_set h]
  rfl
theorem rf_set_tail {r : Rh} {m m' : FlashM} (i : Nat) (u : Value) (e : (rfTail m).set i u = rfTail m') (el : m'.locks = m.locks) (eh : rfHead r m' = rfHead r m) : (rfCells r m).set (73 + i) u = rfCells r m' := by
  unfold rfCells
  rw [List.set_append_right _ _ (by rw [rfHead_len]; omega), rfHead_len, List.set_append_right _ _ (by rw [lockCells_len]; omega), lockCells_len, show 73 + i - 9 - 64 = i by omega, e, el, eh]

section
variable (r : Rh) (m : FlashM)
@[go_sem] theorem rfg0 : (rfCells r m)[0]? = some (.slice (some ⟨r.gw, 0, none⟩) m.chip.ws.length r.cw) := rf_head 0 (by omega)
@[go_sem] theorem rfg1 : (rfCells r m)[1]? = some (.slice (some ⟨r.ge, 0, none⟩) m.chip.wear.length r.ce) := rf_head 1 (by omega)
@[go_sem] theorem rfg2 : (rfCells r m)[2]? = some (.int .i64 m.chip.endure) := rf_head 2 (by omega)
@[go_sem] theorem rfg3 : (rfCells r m)[3]? = some (.int .i64 m.chip.left) := rf_head 3 (by omega)
@[go_sem] theorem rfg4 : (rfCells r m)[4]? = some (.int .u32 (U m.chip.pick)) := rf_head 4 (by omega)
@[go_sem] theorem rfg5 : (rfCells r m)[5]? = some (.bool (!m.chip.up)) := rf_head 5 (by omega)
@[go_sem] theorem rfg6 : (rfCells r m)[6]? = some (.int .i64 m.mode) := rf_head 6 (by omega)
@[go_sem] theorem rfg7 : (rfCells r m)[7]? = some (.int .i64 m.wait) := rf_head 7 (by omega)
@[go_sem] theorem rfg8 : (rfCells r m)[8]? = some (.int .u32 (U m.errors)) := rf_head 8 (by omega)
@[go_sem] theorem rfg73 : (rfCells r m)[73]? = some (.int .i64 m.job) := rf_tail 0
@[go_sem] theorem rfg74 : (rfCells r m)[74]? = some (.int .i64 m.at_) := rf_tail 1
@[go_sem] theorem rfg75 : (rfCells r m)[75]? = some (.int .u32 (U m.v)) := rf_tail 2
@[go_sem] theorem rfg76 : (rfCells r m)[76]? = some (.int .i64 m.left) := rf_tail 3
@[go_sem] theorem rfs6 (x : Int) : (rfCells r m).set 6 (.int .i64 x) = rfCells r { m with mode := x } := rf_set_head 6 (by omega) _ rfl rfl rfl
@[go_sem] theorem rfs7 (x : Int) : (rfCells r m).set 7 (.int .i64 x) = rfCells r { m with wait := x } := rf_set_head 7 (by omega) _ rfl rfl rfl
@[go_sem] theorem rfs8 (x : BitVec 32) : (rfCells r m).set 8 (.int .u32 (U x)) = rfCells r { m with errors := x } := rf_set_head 8 (by omega) _ rfl rfl rfl
@[go_sem] theorem rfs80 : (rfCells r m).set 8 (.int .u32 0) = rfCells r { m with errors := 0#32 } := rf_set_head 8 (by omega) _ rfl rfl rfl
@[go_sem] theorem rfs73 (x : Int) : (rfCells r m).set 73 (.int .i64 x) = rfCells r { m with job := x } := rf_set_tail 0 _ rfl rfl rfl
@[go_sem] theorem rfs74 (x : Nat) : (rfCells r m).set 74 (.int .i64 (x : Int)) = rfCells r { m with at_ := x } := rf_set_tail 1 _ rfl rfl rfl
@[go_sem] theorem rfs740 : (rfCells r m).set 74 (.int .i64 0) = rfCells r { m with at_ := 0 } := rf_set_tail 1 _ rfl rfl rfl
@[go_sem] theorem rfs75 (x : BitVec 32) : (rfCells r m).set 75 (.int .u32 (U x)) = rfCells r { m with v := x } := rf_set_tail 2 _ rfl rfl rfl
@[go_sem] theorem rfs750 : (rfCells r m).set 75 (.int .u32 0) = rfCells r { m with v := 0#32 } := rf_set_tail 2 _ rfl rfl rfl
@[go_sem] theorem rfs76 (x : Int) : (rfCells r m).set 76 (.int .i64 x) = rfCells r { m with left := x } := rf_set_tail 3 _ rfl rfl rfl
end

theorem rf_one (r : Rh) (m : FlashM) : ∀ u ∈ rfCells r m, u.oneCell' = true := by
  intro u hu
  unfold rfCells rfHead refCells rfTail lockCells at hu
  simp only [List.mem_append, List.mem_map, List.mem_cons, List.not_mem_nil, or_false] at hu
  rcases hu with ((rfl | rfl | rfl | rfl | rfl | rfl) | (rfl | rfl | rfl)) | (⟨b, _, rfl⟩ | (rfl | rfl | rfl | rfl)) <;> rfl

theorem rf_info : (Try.prog.info? 36).map (fun i => (i.zero, i.size)) = some (some (.agg rfZero.toArray), 77) := by kernel_rfl
theorem rf_zero (w : World) : (zeroValue 36).run Try.prog w = .ok (.agg rfZero.toArray) w := (zero_of_info rf_info).1 w
theorem rf_size : (Try.prog.info? 36).map (·.size) = some 77 := (zero_of_info rf_info).2

/-! A whole flash by value, loaded and stored at one operation. -/
abbrev TF : TypeId := 36
section
variable {o : Oper} {a : Act} {w : World} {K : Act → World → Prop} {Q : Exit → Act → World → Prop} {g : Nat} {cs : List Value}
theorem wp_ld (x : Operand) (ho : o.op = .load 36 x) (hx : a.eval x = .pointer (some ⟨g, 0, none⟩)) (hA : At w g 36 cs) (hn : cs.length = 77)
    (h : K (a.put o.dst (.agg cs.toArray)) w) : o.wp Try.prog a w K Q :=
  wp_load_row 36 x ho g hx 36 cs.toArray (0, 0) _ hA Try.underlying36 rfl (by rw [rf_size]; simp [hn]) h
theorem At.setRow {t : TypeId} {cs' : List Value} (hA : At w g t cs) : At (w.setRow g cs'.toArray) g t cs' := setRow_heap w g _ _ _ _ hA
theorem turned_setRow (w : World) (g : Nat) (cs : Array Value) : Turned (Just g) w (w.setRow g cs) :=
  ⟨rfl, rfl, rfl, by simp [World.setRow], fun k _ hk => setRow_other w g k cs hk⟩
theorem wp_st (x y : Operand) (ho : o.op = .store 36 x y) (hx : a.eval x = .pointer (some ⟨g, 0, none⟩)) {cs' : List Value} (hy : a.eval y = .agg cs'.toArray)
    (hA : At w g 36 cs) (hn : cs.length = 77) (hn' : cs'.length = 77) (h1 : ∀ u ∈ cs', u.oneCell' = true)
    (h : ∀ w', At w' g 36 cs' → Turned (Just g) w w' → K (a.put o.dst undef) w') : o.wp Try.prog a w K Q := by
  have hr := run_storeVar_row (P := Try.prog) w g 36 36 cs.toArray cs'.toArray hA (by rw [rf_size]; simp [hn']) (by simp [hn, hn']) (by simpa using h1)
  have hk := h _ hA.setRow (turned_setRow w g cs'.toArray)
  unfold Oper.wp execOp
  simp only [ho, hx, hy, Instr.storeAt, Instr.sureAddr, Sem.run_bind, Sem.run_pure, Result.andThen_ok, hr]
  exact hk
end
theorem wpList_ld {ops : Array Oper} {rest : List Oper} {o : Oper} {a : Act} {w : World} {Q : Exit → Act → World → Prop} {g : Nat} {cs : List Value} (x : Operand) (hgd : o.guard = none) (ho : o.op = .load 36 x) (hx : a.eval x = .pointer (some ⟨g, 0, none⟩)) (hA : At w g 36 cs) (hn : cs.length = 77)
    (h : wpList Try.prog ops Q rest (a.put o.dst (.agg cs.toArray)) w) : wpList Try.prog ops Q (o :: rest) a w :=
  wpList_plain hgd fun _ hK => wp_ld x ho hx hA hn (hK _ _ h)
theorem wpList_st {ops : Array Oper} {rest : List Oper} {o : Oper} {a : Act} {w : World} {Q : Exit → Act → World → Prop} {g : Nat} {cs : List Value} (x y : Operand) (hgd : o.guard = none) (ho : o.op = .store 36 x y) (hx : a.eval x = .pointer (some ⟨g, 0, none⟩)) {cs' : List Value} (hy : a.eval y = .agg cs'.toArray)
    (hA : At w g 36 cs) (hn : cs.length = 77) (hn' : cs'.length = 77) (h1 : ∀ u ∈ cs', u.oneCell' = true)
    (h : ∀ w', At w' g 36 cs' → Turned (Just g) w w' → wpList Try.prog ops Q rest (a.put o.dst undef) w') : wpList Try.prog ops Q (o :: rest) a w :=
  wpList_plain hgd fun _ hK => wp_st x y ho hx hy hA hn hn' h1 fun w' hA' ht => hK _ _ (h w' hA' ht)
theorem rf_zero_len : rfZero.length = 77 := by decide
theorem rf_res1 {fn : Func} {p : Tmp} (h : fn.results = #[.cell p 36]) (tmps : Array Value) {w : World} {g : Nat} {cs : List Value} (hp : tmps.getD p undef = .pointer (some ⟨g, 0, none⟩)) (hA : At w g 36 cs) (hn : cs.length = 77) :
    (results fn tmps).run Try.prog w = .ok (.agg cs.toArray) w :=
  results_cell_row h tmps w g 36 cs.toArray (0, 0) _ hp hA Try.underlying36 rfl (by rw [rf_size]; simp [hn])
theorem rf_res2 {fn : Func} {p q : Tmp} (h : fn.results = #[.cell p 36, .tmp q]) (tmps : Array Value) {w : World} {g : Nat} {cs : List Value} {v : Value} (hp : tmps.getD p undef = .pointer (some ⟨g, 0, none⟩)) (hq : tmps.getD q undef = v) (hA : At w g 36 cs) (hn : cs.length = 77) :
    (results fn tmps).run Try.prog w = .ok (.tuple #[.agg cs.toArray, v]) w := by
  have hp' : tmps[p]?.getD undef = .pointer (some ⟨g, 0, none⟩) := by simpa using hp
  have hq' : tmps[q]?.getD undef = v := by simpa using hq
  simp [results, h, hp', hq', asAddr, run_loadVar_row (P := Try.prog) w g 36 36 cs.toArray (0, 0) _ hA Try.underlying36 rfl (by rw [rf_size]; simp [hn])]
end Go.Proofs.Yteiegkfoabhikaa
