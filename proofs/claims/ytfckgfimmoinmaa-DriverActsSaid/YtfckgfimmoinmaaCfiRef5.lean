/- The contract of the document's flash: Reset. -/
import Derived.Test.YtfckgfimmoinmaaCfiRA
namespace Go.Proofs.Ytfckgfimmoinmaa
open Go.RowKit Bm

theorem rfZero_is : rfZero = refZero ++ [.int .i64 0, .int .i64 0, .int .u32 0] ++ (lockCells noLocks ++ [.int .i64 0, .int .i64 0, .int .u32 0, .int .i64 0]) := by
  have e : lockCells noLocks = List.replicate 64 (Value.bool false) := by
    unfold lockCells
    simp only [lk_none]
    simp [List.map_const']
  rw [e]
  rfl
theorem reset_cells (r : Rh) (m : FlashM) :
    ((((((rfZero.set 0 (.slice (some ⟨r.gw, 0, none⟩) m.chip.ws.length r.cw)).set 1 (.slice (some ⟨r.ge, 0, none⟩) m.chip.wear.length r.ce)).set 2 (.int .i64 m.chip.endure)).set 3 (.int .i64 m.chip.left)).set 4 (.int .u32 (U m.chip.pick))).set 5 (.bool (!m.chip.up))) = rfCells r (fReset m) := by
  rw [rfZero_is]
  rfl

set_option maxRecDepth 100000 in
set_option maxHeartbeats 2000000 in
theorem rreset_any (r : Rh) (m : FlashM) (w : World) :
    Calls Try.prog 27 #[rfVal r m] w (Gives (rfVal r (fReset m)) w) := by
  have hz := rf_zero
  have hz6 : rfZero.length = 77 := rf_zero_len
  have HN := Lib.hid (rf_len r (fReset m))
  have rc := reset_cells r m
  unfold rfVal
  go_enter Try.func27, Try.ntmps27
  go_wp2_with (refine wpList_st (cs' := rfCells r (fReset m)) (.tmp 2) (.tmp 5) rfl (by rfl) (by rfl) (by simp only [← rc]; rfl) (two_b w (rfCells r m)) rf_zero_len HN.out (rf_one _ _) ?_; intro w4 A4 T4; have A4' := Lib.hid A4; have T4' := Lib.hid T4; clear A4 T4)
  exact bodyPost_ret (rf_res1 Try.results27 _ rfl A4'.out HN.out) rfl ⟨rfl, two_done0 T4'.out⟩
end Go.Proofs.Ytfckgfimmoinmaa
