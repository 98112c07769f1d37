/- Contracts of the document's flash: with, wrong, Status. -/
import Derived.Test.YteiegkfoabhikaaCfiRef
import Derived.Test.YteiegkfoabhikaaCfiSt
namespace Go.Proofs.Yteiegkfoabhikaa
open Go.RowKit Bm

/-- Only new memory; this value is handed back. -/
def Gives (v : Value) (w : World) (e : Ending) (w' : World) : Prop := e = .returned v ∧ Below w.heap.size w w'

/-- A flash's cells, and behind them a new one's, made on w. -/
abbrev W2 (w : World) (cs : List Value) : World := (w.alloc (.cells cs.toArray 36)).alloc (.cells rfZero.toArray 36)
theorem two_a (w : World) (cs : List Value) : At (W2 w cs) w.heap.size 36 cs := (At.news w _ _).alloc _
theorem two_b (w : World) (cs : List Value) : At (W2 w cs) (w.heap.size + 1) 36 rfZero := At.alloc_new _ _ _ (by rw [World.size_alloc]) rfl
theorem two_size (w : World) (cs : List Value) : (W2 w cs).heap.size = w.heap.size + 1 + 1 := by rw [World.size_alloc, World.size_alloc]
theorem two_below (w : World) (cs : List Value) : Below w.heap.size w (W2 w cs) := below_two w _ _
theorem two_done {w w3 w4 : World} {cs : List Value} (hb : Below (W2 w cs).heap.size (W2 w cs) w3) (t : Turned (Just (w.heap.size + 1)) w3 w4) : Below w.heap.size w w4 := by
  have hs := hb.size
  rw [two_size] at hs
  exact ((two_below w cs).trans (hb.mono (by rw [two_size]; omega))).trans (t.below (fun i hi => by unfold Just at hi; omega) (by omega))
theorem two_done0 {w w4 : World} {cs : List Value} (t : Turned (Just (w.heap.size + 1)) (W2 w cs) w4) : Below w.heap.size w w4 := two_done (Below.refl _ _) t

set_option maxRecDepth 100000 in
set_option maxHeartbeats 2000000 in
theorem rwith_any (r : Rh) (m : FlashM) (b : BitVec 32) (w : World) :
    Calls Try.prog 44 #[rfVal r m, .int .u32 (U b)] w (Gives (rfVal r (fWith m b)) w) := by
  have hz := rf_zero
  have hn : (rfCells r (fWith m b)).length = 77 := rf_len _ _
  have a1 : At ((w.alloc (.cells (rfCells r (fWith m b)).toArray 36)).alloc (.cells rfZero.toArray 36)) w.heap.size 36 (rfCells r (fWith m b)) := (At.news w _ _).alloc _
  have a2 : At ((w.alloc (.cells (rfCells r (fWith m b)).toArray 36)).alloc (.cells rfZero.toArray 36)) (w.heap.size + 1) 36 rfZero := At.alloc_new _ _ _ (by rw [World.size_alloc]) rfl
  have bb := below_two w (.cells (rfCells r (fWith m b)).toArray 36) (.cells rfZero.toArray 36)
  have hsz : ((w.alloc (.cells (rfCells r (fWith m b)).toArray 36)).alloc (.cells rfZero.toArray 36)).heap.size = w.heap.size + 1 + 1 := by rw [World.size_alloc, World.size_alloc]
  have HN := Lib.hid hn
  have A1 := Lib.hid a1
  have A2 := Lib.hid a2
  have BB := Lib.hid bb
  have HS := Lib.hid hsz
  clear hn a1 a2 bb hsz
  unfold rfVal
  go_enter Try.func44, Try.ntmps44
  go_wp2_with (first
    | (refine wpList_ld (.tmp 2) rfl (by rfl) (by rfl) A1.out HN.out ?_)
    | (refine wpList_st (.tmp 4) (.tmp 10) rfl (by rfl) (by rfl) (by rfl) A2.out rf_zero_len HN.out (rf_one _ _) ?_; intro W2 A3 T3; have A3' := Lib.hid A3; have T3' := Lib.hid T3; clear A3 T3))
  exact bodyPost_ret (rf_res1 Try.results44 _ rfl A3'.out HN.out) rfl ⟨rfl, two_done0 (cs := rfCells r (fWith m b)) T3'.out⟩

set_option maxRecDepth 100000 in
set_option maxHeartbeats 2000000 in
theorem rwrong_any (r : Rh) (m : FlashM) (n : Int) (w : World) :
    Calls Try.prog 39 #[rfVal r m, .int .i64 n] w (Gives (.int .i64 (fRefuse m n)) w) := by
  have fin : Below w.heap.size w (w.alloc (.cells (rfCells r m).toArray 36)) := (Below.refl _ w).alloc (Nat.le_refl _) _
  have F := Lib.hid fin
  clear fin
  unfold fRefuse mRefuse rfVal
  cases hu : m.chip.up
  · skip
    go_enter Try.func39, Try.ntmps39
    go_wp2
    go_ret
    exact ⟨rfl, F.out⟩
  · skip
    by_cases hn : n < 0
    · go_enter Try.func39, Try.ntmps39
      go_wp2
      go_ret
      exact ⟨by simp, F.out⟩
    · by_cases hm : (m.chip.ws.length : Int) ≤ n
      · go_enter Try.func39, Try.ntmps39
        go_wp2
        go_ret
        exact ⟨by simp, F.out⟩
      · go_enter Try.func39, Try.ntmps39
        go_wp2
        go_ret
        exact ⟨by simp, F.out⟩

theorem U_add128 {x : BitVec 32} (h : x &&& 128#32 = 0#32) : U x + 128 = U (x ||| 128#32) := by
  have h1 := BitVec.add_eq_or_of_and_eq_zero x 128#32 h
  have h2 := BitVec.toNat_add_of_and_eq_zero h
  rw [← h1]
  unfold U
  rw [h2]
  simp

set_option maxRecDepth 100000 in
set_option maxHeartbeats 2000000 in
theorem rstatus_any (r : Rh) (m : FlashM) (k : Nat) (w : World) (ok : FlashOk k m) :
    Calls Try.prog 26 #[rfVal r m] w (Gives (.int .u32 (U (fStatus m))) w) := by
  have fin : Below w.heap.size w (w.alloc (.cells (rfCells r m).toArray 36)) := (Below.refl _ w).alloc (Nat.le_refl _) _
  have hadd := U_add128 ok.errors
  have b0 := U_nonneg m.errors
  have b1 := U_lt (m.errors ||| 128#32)
  have b2 : U m.errors + 128 < 4294967296 := by omega
  have F := Lib.hid fin
  have HA := Lib.hid hadd
  clear fin hadd b1
  unfold fStatus rfVal
  by_cases hj : m.job = 0
  · rw [if_pos hj]
    clear ok
    go_enter Try.func26, Try.ntmps26
    go_wp2
    go_ret
    exact ⟨ret_u HA.out, F.out⟩
  · rw [if_neg hj]
    have q : (m.job == 0) = false := by rw [beq_eq_false_iff_ne]; exact hj
    clear hj ok
    go_enter Try.func26, Try.ntmps26
    go_wp2
    go_ret
    exact ⟨rfl, F.out⟩
end Go.Proofs.Yteiegkfoabhikaa
