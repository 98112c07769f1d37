/- The document's own flash (layer cfi) by value: 77 cells, told by a list; how a walk loads and stores it whole. | Contracts of the document's flash: with, wrong, Status. -/
import Derived.Test.YtfckgfimmoinmaaCfiA
import Derived.Test.YtfckgfimmoinmaaNorRC
import Derived.Deep.MidRow
import Derived.Deep.WholeRow
import Derived.Lib.Hide
import Derived.Test.YtfckgfimmoinmaaCfiS
namespace Go.Proofs.Ytfckgfimmoinmaa
open Go.RowKit Bm

def rfTail (m : FlashM) : List Value := [.int .i64 m.job, .int .i64 m.at_, .int .u32 (U m.v), .int .i64 m.left]
def rfHead (r : Rh) (m : FlashM) : List Value := refCells r m.chip ++ [.int .i64 m.mode, .int .i64 m.wait, .int .u32 (U m.errors)]
def lockCells (l : List Bool) : List Value := (List.range 64).map fun i => Value.bool (lk l i)
def rfCells (r : Rh) (m : FlashM) : List Value := rfHead r m ++ (lockCells m.locks ++ rfTail m)
def rfVal (r : Rh) (m : FlashM) : Value := .agg (rfCells r m).toArray
def rfZero : List Value := refZero ++ [.int .i64 0, .int .i64 0, .int .u32 0] ++ (List.replicate 64 (Value.bool false) ++ [.int .i64 0, .int .i64 0, .int .u32 0, .int .i64 0])

theorem rfHead_len (r : Rh) (m : FlashM) : (rfHead r m).length = 9 := rfl
theorem lockCells_len (l : List Bool) : (lockCells l).length = 64 := by simp [lockCells]
theorem rf_len (r : Rh) (m : FlashM) : (rfCells r m).length = 77 := by
  unfold rfCells
  rw [List.length_append, List.length_append, rfHead_len, lockCells_len]
  rfl
theorem rf_head {r : Rh} {m : FlashM} (i : Nat) (hi : i < 9) : (rfCells r m)[i]? = (rfHead r m)[i]? := by
  unfold rfCells
  rw [List.getElem?_append_left (by rw [rfHead_len]; exact hi)]
theorem rf_lock (r : Rh) (m : FlashM) (i : Nat) (hi : i < 64) : (rfCells r m)[9 + i]? = some (.bool (lk m.locks i)) := by
  unfold rfCells
  rw [List.getElem?_append_right (by rw [rfHead_len]; omega), rfHead_len, show 9 + i - 9 = i by omega, List.getElem?_append_left (by rw [lockCells_len]; exact hi)]
  simp [lockCells, hi]
theorem rf_tail {r : Rh} {m : FlashM} (i : Nat) : (rfCells r m)[73 + i]? = (rfTail m)[i]? := by
  unfold rfCells
  rw [List.getElem?_append_right (by rw [rfHead_len]; omega), rfHead_len, List.getElem?_append_right (by rw [lockCells_len]; omega), lockCells_len, show 73 + i - 9 - 64 = i by omega]

theorem rf_set_head {r : Rh} {m m' : FlashM} (i : Nat) (hi : i < 9) (u : Value) (e : (rfHead r m).set i u = rfHead r m') (el : m'.locks = m.locks) (et : rfTail m' = rfTail m) : (rfCells r m).set i u = rfCells r m' := by
  unfold rfCells
  rw [List.set_append_left _ _ (by rw [rfHead_len]; exact hi), e, el, et]
theorem lockCells_set {l : List Bool} (h : l.length = 64) (i : Nat) (b : Bool) : (lockCells l).set i (.bool b) = lockCells (l.set i b) := by
  apply List.ext_getElem?
  intro j
  rw [List.getElem?_set, lockCells_len]
  by_cases hj : j < 64
  · by_cases e : i = j
    · subst e
      rw [if_pos rfl, if_pos hj]
      simp [lockCells, hj, lk_set_self l i b (by omega)]
    · rw [if_neg e]
      simp [lockCells, hj, lk_set_other l i j b e]
  · have n1 : (lockCells l)[j]? = none := List.getElem?_eq_none (by rw [lockCells_len]; omega)
    have n2 : (lockCells (l.set i b))[j]? = none := List.getElem?_eq_none (by rw [lockCells_len]; omega)
    rw [n1, n2]
    split
    · rename_i e
      rw [if_neg (by omega)]
    · rfl
theorem rf_set_lock (r : Rh) (m : FlashM) (h : m.locks.length = 64) (i : Nat) (hi : i < 64) (b : Bool) : (rfCells r m).set (9 + i) (.bool b) = rfCells r { m with locks := m.locks.set i b } := by
  unfold rfCells
  rw [List.set_append_right _ _ (by rw [rfHead_len]; omega), rfHead_len, show 9 + i - 9 = i by omega, List.set_append_left _ _ (by rw [lockCells_len]; exact hi), lockCells_set h]
  rfl
theorem rf_set_tail {r : Rh} {m m' : FlashM} (i : Nat) (u : Value) (e : (rfTail m).set i u = rfTail m') (el : m'.locks = m.locks) (eh : rfHead r m' = rfHead r m) : (rfCells r m).set (73 + i) u = rfCells r m' := by
  unfold rfCells
  rw [List.set_append_right _ _ (by rw [rfHead_len]; omega), rfHead_len, List.set_append_right _ _ (by rw [lockCells_len]; omega), lockCells_len, show 73 + i - 9 - 64 = i by omega, e, el, eh]

section
variable (r : Rh) (m : FlashM)
@[go_sem] theorem rfg0 : (rfCells r m)[0]? = some (.slice (some ⟨r.gw, 0, none⟩) m.chip.ws.length r.cw) := rf_head 0 (by omega)
@[go_sem] theorem rfg1 : (rfCells r m)[1]? = some (.slice (some ⟨r.ge, 0, none⟩) m.chip.wear.length r.ce) := rf_head 1 (by omega)
@[go_sem] theorem rfg2 : (rfCells r m)[2]? = some (.int .i64 m.chip.endure) := rf_head 2 (by omega)
@[go_sem] theorem rfg3 : (rfCells r m)[3]? = some (.int .i64 m.chip.left) := rf_head 3 (by omega)
@[go_sem] theorem rfg4 : (rfCells r m)[4]? = some (.int .u32 (U m.chip.pick)) := rf_head 4 (by omega)
@[go_sem] theorem rfg5 : (rfCells r m)[5]? = some (.bool (!m.chip.up)) := rf_head 5 (by omega)
@[go_sem] theorem rfg6 : (rfCells r m)[6]? = some (.int .i64 m.mode) := rf_head 6 (by omega)
@[go_sem] theorem rfg7 : (rfCells r m)[7]? = some (.int .i64 m.wait) := rf_head 7 (by omega)
@[go_sem] theorem rfg8 : (rfCells r m)[8]? = some (.int .u32 (U m.errors)) := rf_head 8 (by omega)
@[go_sem] theorem rfg73 : (rfCells r m)[73]? = some (.int .i64 m.job) := rf_tail 0
@[go_sem] theorem rfg74 : (rfCells r m)[74]? = some (.int .i64 m.at_) := rf_tail 1
@[go_sem] theorem rfg75 : (rfCells r m)[75]? = some (.int .u32 (U m.v)) := rf_tail 2
@[go_sem] theorem rfg76 : (rfCells r m)[76]? = some (.int .i64 m.left) := rf_tail 3
@[go_sem] theorem rfs6 (x : Int) : (rfCells r m).set 6 (.int .i64 x) = rfCells r { m with mode := x } := rf_set_head 6 (by omega) _ rfl rfl rfl
@[go_sem] theorem rfs7 (x : Int) : (rfCells r m).set 7 (.int .i64 x) = rfCells r { m with wait := x } := rf_set_head 7 (by omega) _ rfl rfl rfl
@[go_sem] theorem rfs8 (x : BitVec 32) : (rfCells r m).set 8 (.int .u32 (U x)) = rfCells r { m with errors := x } := rf_set_head 8 (by omega) _ rfl rfl rfl
@[go_sem] theorem rfs80 : (rfCells r m).set 8 (.int .u32 0) = rfCells r { m with errors := 0#32 } := rf_set_head 8 (by omega) _ rfl rfl rfl
@[go_sem] theorem rfs73 (x : Int) : (rfCells r m).set 73 (.int .i64 x) = rfCells r { m with job := x } := rf_set_tail 0 _ rfl rfl rfl
@[go_sem] theorem rfs74 (x : Nat) : (rfCells r m).set 74 (.int .i64 (x : Int)) = rfCells r { m with at_ := x } := rf_set_tail 1 _ rfl rfl rfl
@[go_sem] theorem rfs740 : (rfCells r m).set 74 (.int .i64 0) = rfCells r { m with at_ := 0 } := rf_set_tail 1 _ rfl rfl rfl
@[go_sem] theorem rfs75 (x : BitVec 32) : (rfCells r m).set 75 (.int .u32 (U x)) = rfCells r { m with v := x } := rf_set_tail 2 _ rfl rfl rfl
@[go_sem] theorem rfs750 : (rfCells r m).set 75 (.int .u32 0) = rfCells r { m with v := 0#32 } := rf_set_tail 2 _ rfl rfl rfl
@[go_sem] theorem rfs76 (x : Int) : (rfCells r m).set 76 (.int .i64 x) = rfCells r { m with left := x } := rf_set_tail 3 _ rfl rfl rfl
end

theorem rf_one (r : Rh) (m : FlashM) : ∀ u ∈ rfCells r m, u.oneCell' = true := by
  intro u hu
  unfold rfCells rfHead refCells rfTail lockCells at hu
  simp only [List.mem_append, List.mem_map, List.mem_cons, List.not_mem_nil, or_false] at hu
  rcases hu with ((rfl | rfl | rfl | rfl | rfl | rfl) | (rfl | rfl | rfl)) | (⟨b, _, rfl⟩ | (rfl | rfl | rfl | rfl)) <;> rfl

theorem rf_info : (Try.prog.info? 39).map (fun i => (i.zero, i.size)) = some (some (.agg rfZero.toArray), 77) := by kernel_rfl
theorem rf_zero (w : World) : (zeroValue 39).run Try.prog w = .ok (.agg rfZero.toArray) w := (zero_of_info rf_info).1 w
theorem rf_size : (Try.prog.info? 39).map (·.size) = some 77 := (zero_of_info rf_info).2

/-! A whole flash by value, loaded and stored at one operation. -/
abbrev TF : TypeId := 39
section
variable {o : Oper} {a : Act} {w : World} {K : Act → World → Prop} {Q : Exit → Act → World → Prop} {g : Nat} {cs : List Value}
theorem wp_ld (x : Operand) (ho : o.op = .load 39 x) (hx : a.eval x = .pointer (some ⟨g, 0, none⟩)) (hA : At w g 39 cs) (hn : cs.length = 77)
    (h : K (a.put o.dst (.agg cs.toArray)) w) : o.wp Try.prog a w K Q :=
  wp_load_row 39 x ho g hx 39 cs.toArray (0, 0) _ hA Try.underlying39 rfl (by rw [rf_size]; simp [hn]) h
theorem At.setRow {t : TypeId} {cs' : List Value} (hA : At w g t cs) : At (w.setRow g cs'.toArray) g t cs' := setRow_heap w g _ _ _ _ hA
theorem turned_setRow (w : World) (g : Nat) (cs : Array Value) : Turned (Just g) w (w.setRow g cs) :=
  ⟨rfl, rfl, rfl, by simp [World.setRow], fun k _ hk => setRow_other w g k cs hk⟩
theorem wp_st (x y : Operand) (ho : o.op = .store 39 x y) (hx : a.eval x = .pointer (some ⟨g, 0, none⟩)) {cs' : List Value} (hy : a.eval y = .agg cs'.toArray)
    (hA : At w g 39 cs) (hn : cs.length = 77) (hn' : cs'.length = 77) (h1 : ∀ u ∈ cs', u.oneCell' = true)
    (h : ∀ w', At w' g 39 cs' → Turned (Just g) w w' → K (a.put o.dst undef) w') : o.wp Try.prog a w K Q := by
  have hr := run_storeVar_row (P := Try.prog) w g 39 39 cs.toArray cs'.toArray hA (by rw [rf_size]; simp [hn']) (by simp [hn, hn']) (by simpa using h1)
  have hk := h _ hA.setRow (turned_setRow w g cs'.toArray)
  unfold Oper.wp execOp
  simp only [ho, hx, hy, Instr.storeAt, Instr.sureAddr, Sem.run_bind, Sem.run_pure, Result.andThen_ok, hr]
  exact hk
end
theorem wpList_ld {ops : Array Oper} {rest : List Oper} {o : Oper} {a : Act} {w : World} {Q : Exit → Act → World → Prop} {g : Nat} {cs : List Value} (x : Operand) (hgd : o.guard = none) (ho : o.op = .load 39 x) (hx : a.eval x = .pointer (some ⟨g, 0, none⟩)) (hA : At w g 39 cs) (hn : cs.length = 77)
    (h : wpList Try.prog ops Q rest (a.put o.dst (.agg cs.toArray)) w) : wpList Try.prog ops Q (o :: rest) a w :=
  wpList_plain hgd fun _ hK => wp_ld x ho hx hA hn (hK _ _ h)
theorem wpList_st {ops : Array Oper} {rest : List Oper} {o : Oper} {a : Act} {w : World} {Q : Exit → Act → World → Prop} {g : Nat} {cs : List Value} (x y : Operand) (hgd : o.guard = none) (ho : o.op = .store 39 x y) (hx : a.eval x = .pointer (some ⟨g, 0, none⟩)) {cs' : List Value} (hy : a.eval y = .agg cs'.toArray)
    (hA : At w g 39 cs) (hn : cs.length = 77) (hn' : cs'.length = 77) (h1 : ∀ u ∈ cs', u.oneCell' = true)
    (h : ∀ w', At w' g 39 cs' → Turned (Just g) w w' → wpList Try.prog ops Q rest (a.put o.dst undef) w') : wpList Try.prog ops Q (o :: rest) a w :=
  wpList_plain hgd fun _ hK => wp_st x y ho hx hy hA hn hn' h1 fun w' hA' ht => hK _ _ (h w' hA' ht)
theorem rf_zero_len : rfZero.length = 77 := by decide
theorem rf_res1 {fn : Func} {p : Tmp} (h : fn.results = #[.cell p 39]) (tmps : Array Value) {w : World} {g : Nat} {cs : List Value} (hp : tmps.getD p undef = .pointer (some ⟨g, 0, none⟩)) (hA : At w g 39 cs) (hn : cs.length = 77) :
    (results fn tmps).run Try.prog w = .ok (.agg cs.toArray) w :=
  results_cell_row h tmps w g 39 cs.toArray (0, 0) _ hp hA Try.underlying39 rfl (by rw [rf_size]; simp [hn])
theorem rf_res2 {fn : Func} {p q : Tmp} (h : fn.results = #[.cell p 39, .tmp q]) (tmps : Array Value) {w : World} {g : Nat} {cs : List Value} {v : Value} (hp : tmps.getD p undef = .pointer (some ⟨g, 0, none⟩)) (hq : tmps.getD q undef = v) (hA : At w g 39 cs) (hn : cs.length = 77) :
    (results fn tmps).run Try.prog w = .ok (.tuple #[.agg cs.toArray, v]) w := by
  have hp' : tmps[p]?.getD undef = .pointer (some ⟨g, 0, none⟩) := by simpa using hp
  have hq' : tmps[q]?.getD undef = v := by simpa using hq
  simp [results, h, hp', hq', asAddr, run_loadVar_row (P := Try.prog) w g 39 39 cs.toArray (0, 0) _ hA Try.underlying39 rfl (by rw [rf_size]; simp [hn])]
end Go.Proofs.Ytfckgfimmoinmaa

namespace Go.Proofs.Ytfckgfimmoinmaa
open Go.RowKit Bm

/-- Only new memory; this value is handed back. -/
def Gives (v : Value) (w : World) (e : Ending) (w' : World) : Prop := e = .returned v ∧ Below w.heap.size w w'

/-- A flash's cells, and behind them a new one's, made on w. -/
abbrev W2 (w : World) (cs : List Value) : World := (w.alloc (.cells cs.toArray 39)).alloc (.cells rfZero.toArray 39)
theorem two_a (w : World) (cs : List Value) : At (W2 w cs) w.heap.size 39 cs := (At.news w _ _).alloc _
theorem two_b (w : World) (cs : List Value) : At (W2 w cs) (w.heap.size + 1) 39 rfZero := At.alloc_new _ _ _ (by rw [World.size_alloc]) rfl
theorem two_size (w : World) (cs : List Value) : (W2 w cs).heap.size = w.heap.size + 1 + 1 := by rw [World.size_alloc, World.size_alloc]
theorem two_below (w : World) (cs : List Value) : Below w.heap.size w (W2 w cs) := below_two w _ _
theorem two_done {w w3 w4 : World} {cs : List Value} (hb : Below (W2 w cs).heap.size (W2 w cs) w3) (t : Turned (Just (w.heap.size + 1)) w3 w4) : Below w.heap.size w w4 := by
  have hs := hb.size
  rw [two_size] at hs
  exact ((two_below w cs).trans (hb.mono (by rw [two_size]; omega))).trans (t.below (fun i hi => by unfold Just at hi; omega) (by omega))
theorem two_done0 {w w4 : World} {cs : List Value} (t : Turned (Just (w.heap.size + 1)) (W2 w cs) w4) : Below w.heap.size w w4 := two_done (Below.refl _ _) t

set_option maxRecDepth 100000 in
set_option maxHeartbeats 2000000 in
theorem rwith_any (r : Rh) (m : FlashM) (b : BitVec 32) (w : World) :
    Calls Try.prog 70 #[rfVal r m, .int .u32 (U b)] w (Gives (rfVal r (fWith m b)) w) := by
  have hz := rf_zero
  have hn : (rfCells r (fWith m b)).length = 77 := rf_len _ _
  have a1 : At ((w.alloc (.cells (rfCells r (fWith m b)).toArray 39)).alloc (.cells rfZero.toArray 39)) w.heap.size 39 (rfCells r (fWith m b)) := (At.news w _ _).alloc _
  have a2 : At ((w.alloc (.cells (rfCells r (fWith m b)).toArray 39)).alloc (.cells rfZero.toArray 39)) (w.heap.size + 1) 39 rfZero := At.alloc_new _ _ _ (by rw [World.size_alloc]) rfl
  have bb := below_two w (.cells (rfCells r (fWith m b)).toArray 39) (.cells rfZero.toArray 39)
  have hsz : ((w.alloc (.cells (rfCells r (fWith m b)).toArray 39)).alloc (.cells rfZero.toArray 39)).heap.size = w.heap.size + 1 + 1 := by rw [World.size_alloc, World.size_alloc]
  have HN := Lib.hid hn
  have A1 := Lib.hid a1
  have A2 := Lib.hid a2
  have BB := Lib.hid bb
  have HS := Lib.hid hsz
  clear hn a1 a2 bb hsz
  unfold rfVal
  go_enter Try.func70, Try.ntmps70
  go_wp2_with (first
    | (refine wpList_ld (.tmp 2) rfl (by rfl) (by rfl) A1.out HN.out ?_)
    | (refine wpList_st (.tmp 4) (.tmp 10) rfl (by rfl) (by rfl) (by rfl) A2.out rf_zero_len HN.out (rf_one _ _) ?_; intro W2 A3 T3; have A3' := Lib.hid A3; have T3' := Lib.hid T3; clear A3 T3))
  exact bodyPost_ret (rf_res1 Try.results70 _ rfl A3'.out HN.out) rfl ⟨rfl, two_done0 (cs := rfCells r (fWith m b)) T3'.out⟩

set_option maxRecDepth 100000 in
set_option maxHeartbeats 2000000 in
theorem rwrong_any (r : Rh) (m : FlashM) (n : Int) (w : World) :
    Calls Try.prog 63 #[rfVal r m, .int .i64 n] w (Gives (.int .i64 (fRefuse m n)) w) := by
  have fin : Below w.heap.size w (w.alloc (.cells (rfCells r m).toArray 39)) := (Below.refl _ w).alloc (Nat.le_refl _) _
  have F := Lib.hid fin
  clear fin
  unfold fRefuse mRefuse rfVal
  cases hu : m.chip.up
  · skip
    go_enter Try.func63, Try.ntmps63
    go_wp2
    go_ret
    exact ⟨rfl, F.out⟩
  · skip
    by_cases hn : n < 0
    · go_enter Try.func63, Try.ntmps63
      go_wp2
      go_ret
      exact ⟨by simp, F.out⟩
    · by_cases hm : (m.chip.ws.length : Int) ≤ n
      · go_enter Try.func63, Try.ntmps63
        go_wp2
        go_ret
        exact ⟨by simp, F.out⟩
      · go_enter Try.func63, Try.ntmps63
        go_wp2
        go_ret
        exact ⟨by simp, F.out⟩

theorem U_add128 {x : BitVec 32} (h : x &&& 128#32 = 0#32) : U x + 128 = U (x ||| 128#32) := by
  have h1 := BitVec.add_eq_or_of_and_eq_zero x 128#32 h
  have h2 := BitVec.toNat_add_of_and_eq_zero h
  rw [← h1]
  unfold U
  rw [h2]
  simp

set_option maxRecDepth 100000 in
set_option maxHeartbeats 2000000 in
theorem rstatus_any (r : Rh) (m : FlashM) (k : Nat) (w : World) (ok : FlashOk k m) :
    Calls Try.prog 59 #[rfVal r m] w (Gives (.int .u32 (U (fStatus m))) w) := by
  have fin : Below w.heap.size w (w.alloc (.cells (rfCells r m).toArray 39)) := (Below.refl _ w).alloc (Nat.le_refl _) _
  have hadd := U_add128 ok.errors
  have b0 := U_nonneg m.errors
  have b1 := U_lt (m.errors ||| 128#32)
  have b2 : U m.errors + 128 < 4294967296 := by omega
  have F := Lib.hid fin
  have HA := Lib.hid hadd
  clear fin hadd b1
  unfold fStatus rfVal
  by_cases hj : m.job = 0
  · rw [if_pos hj]
    clear ok
    go_enter Try.func59, Try.ntmps59
    go_wp2
    go_ret
    exact ⟨ret_u HA.out, F.out⟩
  · rw [if_neg hj]
    have q : (m.job == 0) = false := by rw [beq_eq_false_iff_ne]; exact hj
    clear hj ok
    go_enter Try.func59, Try.ntmps59
    go_wp2
    go_ret
    exact ⟨rfl, F.out⟩
end Go.Proofs.Ytfckgfimmoinmaa
