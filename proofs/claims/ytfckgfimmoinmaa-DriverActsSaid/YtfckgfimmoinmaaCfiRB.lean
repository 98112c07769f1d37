/- The contract of the document's flash: waited. | The contracts of the document's flash: Write, Reset. -/
import Derived.Test.YtfckgfimmoinmaaCfiRA
import Derived.Test.YtfckgfimmoinmaaCfiFacts2
import Derived.Test.YtfckgfimmoinmaaCfiTwo
namespace Go.Proofs.Ytfckgfimmoinmaa
open Go.RowKit Bm

theorem U_mod256 (v : BitVec 32) : U v % 256 = U (v &&& 255#32) := by
  have h : (v &&& 255#32).toNat = v.toNat % 256 := by
    rw [BitVec.toNat_and]
    exact Nat.and_two_pow_sub_one_eq_mod v.toNat 8
  unfold U
  rw [h]
  omega

theorem fWaited_64 {m : FlashM} (i : Nat) (v : BitVec 32) (k : m.wait = 64) : fWaited m i v = fProgram { m with wait := 0, mode := 1 } i v := by unfold fWaited; rw [if_pos k]
theorem fWaited_32 {m : FlashM} (i : Nat) (v : BitVec 32) (k : m.wait = 32) : fWaited m i v = fErase { m with wait := 0, mode := 1 } i (v &&& 255#32) := by unfold fWaited; rw [if_neg (by rw [k]; decide), if_pos k]
theorem fWaited_96 {m : FlashM} (i : Nat) (v : BitVec 32) (k : m.wait = 96) : fWaited m i v = fLock { m with wait := 0, mode := 1 } i (v &&& 255#32) := by unfold fWaited; rw [if_neg (by rw [k]; decide), if_neg (by rw [k]; decide)]

set_option maxRecDepth 100000 in
set_option maxHeartbeats 4000000 in
theorem waited_any (r : Rh) (m : FlashM) (k i : Nat) (v : BitVec 32) (w : World) (ok : FlashOk k m) (hw : m.wait ≠ 0) (hi : i < 4096) :
    Calls Try.prog 69 #[rfVal r m, .int .i64 (i : Int), .int .u32 (U v)] w (Gives (rfVal r (fWaited m i v)) w) := by
  obtain ⟨q, hq⟩ : ∃ q, q = i / 64 := ⟨_, rfl⟩
  have hq64 : q < 64 := by omega
  have hz := rf_zero
  have hl := ok.locks
  have gl : (rfCells r { m with wait := 0, mode := 1 })[9 + q]? = some (.bool (lk m.locks q)) := rf_lock r { m with wait := 0, mode := 1 } q hq64
  have iq : (i : Int) / 64 = (q : Int) := by omega
  have i0 : (0 : Int) ≤ (i : Int) := by omega
  have q0 : (q : Int) < 64 := by omega
  have u0 := U_nonneg v
  have HQ := Lib.hid hq
  have HL := Lib.hid hl
  have w3 := ok.wait
  clear hq hl ok hi
  unfold rfVal
  rcases w3 with e | e | e | e
  · exact absurd e hw
  · -- program
    rw [fWaited_64 i v e]
    cases hk : lk m.locks q
    · rw [hk] at gl
      have E : fProgram { m with wait := 0, mode := 1 } i v = { m with wait := 0, mode := 1, job := 64, at_ := i, v := v, left := 3 } := fProgram_free v (by show lk m.locks (i / 64) = false; rw [← HQ.out]; exact hk)
      rw [E]
      have HN := Lib.hid (rf_len r { m with wait := 0, mode := 1, job := 64, at_ := i, v := v, left := 3 })
      clear E hw
      go_enter Try.func69, Try.ntmps69
      go_wp2_with (first
        | (with_reducible refine wpList_ld (.tmp 3) rfl rfl rfl (two_a w (rfCells r { m with wait := 0, mode := 1, job := 64, at_ := i, v := v, left := 3 })) HN.out ?_)
        | ((with_reducible refine wpList_st (.tmp 6) (.tmp 79) rfl rfl rfl rfl (two_b w (rfCells r { m with wait := 0, mode := 1, job := 64, at_ := i, v := v, left := 3 })) rf_zero_len HN.out (rf_one _ _) ?_); intro w4 A4 T4; have A4' := Lib.hid A4; have T4' := Lib.hid T4; clear A4 T4))
      exact bodyPost_ret (rf_res1 Try.results69 _ rfl A4'.out HN.out) rfl ⟨rfl, two_done0 T4'.out⟩
    · rw [hk] at gl
      have E : fProgram { m with wait := 0, mode := 1 } i v = fWith { m with wait := 0, mode := 1 } 18#32 := fProgram_locked v (by show lk m.locks (i / 64) = true; rw [← HQ.out]; exact hk)
      rw [E]
      clear E hw
      have HN := Lib.hid (rf_len r { m with wait := 0, mode := 1 })
      have HN2 := Lib.hid (rf_len r (fWith { m with wait := 0, mode := 1 } 18#32))
      have HC := Lib.hid (fun W => rwith_any r { m with wait := 0, mode := 1 } 18#32 W)
      go_enter Try.func69, Try.ntmps69
      go_wp2_with (first
        | (with_reducible refine wpList_ld (.tmp 3) rfl rfl rfl (two_a w (rfCells r { m with wait := 0, mode := 1 })) HN.out ?_)
        | ((with_reducible refine wpList_st (.tmp 6) (.tmp 30) rfl rfl rfl rfl A3'.out rf_zero_len HN2.out (rf_one _ _) ?_); intro w4 A4 T4; have A4' := Lib.hid A4; have T4' := Lib.hid T4; clear A4 T4)
        | (go_at_call 70; (refine (HC.out _).mono ?_); rintro e w3 ⟨rfl, hb3⟩; have HB3 := Lib.hid hb3; have A3' := Lib.hid ((two_b w (rfCells r { m with wait := 0, mode := 1 })).kept (Turned.of_below hb3 (Nat.le_refl _) NoBlock) (fun h => h)); clear hb3))
      exact bodyPost_ret (rf_res1 Try.results69 _ rfl A4'.out HN2.out) rfl ⟨rfl, two_done HB3.out T4'.out⟩
  · -- erase
    rw [fWaited_32 i v e]
    by_cases hc : v &&& 255#32 = 208#32
    · have c1 : (U v % 256 != 208) = false := by rw [U_mod256]; exact U_bne_false (y := 208#32) hc
      cases hk : lk m.locks q
      · rw [hk] at gl
        have E : fErase { m with wait := 0, mode := 1 } i (v &&& 255#32) = { m with wait := 0, mode := 1, job := 32, at_ := q, left := 20 } := by
          unfold fErase
          rw [if_neg (by simpa using hc), ← HQ.out, if_neg (by show ¬ lk m.locks q = true; rw [hk]; decide)]
        rw [E]
        have HN := Lib.hid (rf_len r { m with wait := 0, mode := 1, job := 32, at_ := q, left := 20 })
        clear E hw hc
        go_enter Try.func69, Try.ntmps69
        go_wp2_with (first
          | (with_reducible refine wpList_ld (.tmp 3) rfl rfl rfl (two_a w (rfCells r { m with wait := 0, mode := 1, job := 32, at_ := q, left := 20 })) HN.out ?_)
          | ((with_reducible refine wpList_st (.tmp 6) (.tmp 79) rfl rfl rfl rfl (two_b w (rfCells r { m with wait := 0, mode := 1, job := 32, at_ := q, left := 20 })) rf_zero_len HN.out (rf_one _ _) ?_); intro w4 A4 T4; have A4' := Lib.hid A4; have T4' := Lib.hid T4; clear A4 T4))
        exact bodyPost_ret (rf_res1 Try.results69 _ rfl A4'.out HN.out) rfl ⟨rfl, two_done0 T4'.out⟩
      · rw [hk] at gl
        have E : fErase { m with wait := 0, mode := 1 } i (v &&& 255#32) = fWith { m with wait := 0, mode := 1 } 34#32 := by
          unfold fErase
          rw [if_neg (by simpa using hc), ← HQ.out, if_pos (by show lk m.locks q = true; exact hk)]
        rw [E]
        clear E hw hc
        have HN := Lib.hid (rf_len r { m with wait := 0, mode := 1 })
        have HN2 := Lib.hid (rf_len r (fWith { m with wait := 0, mode := 1 } 34#32))
        have HC := Lib.hid (fun W => rwith_any r { m with wait := 0, mode := 1 } 34#32 W)
        go_enter Try.func69, Try.ntmps69
        go_wp2_with (first
          | (with_reducible refine wpList_ld (.tmp 3) rfl rfl rfl (two_a w (rfCells r { m with wait := 0, mode := 1 })) HN.out ?_)
          | ((with_reducible refine wpList_st (.tmp 6) (.tmp 56) rfl rfl rfl rfl A3'.out rf_zero_len HN2.out (rf_one _ _) ?_); intro w4 A4 T4; have A4' := Lib.hid A4; have T4' := Lib.hid T4; clear A4 T4)
          | (go_at_call 70; (refine (HC.out _).mono ?_); rintro e w3 ⟨rfl, hb3⟩; have HB3 := Lib.hid hb3; have A3' := Lib.hid ((two_b w (rfCells r { m with wait := 0, mode := 1 })).kept (Turned.of_below hb3 (Nat.le_refl _) NoBlock) (fun h => h)); clear hb3))
        exact bodyPost_ret (rf_res1 Try.results69 _ rfl A4'.out HN2.out) rfl ⟨rfl, two_done HB3.out T4'.out⟩
    · have c1 : (U v % 256 != 208) = true := by rw [U_mod256]; exact U_bne_true (y := 208#32) hc
      have E : fErase { m with wait := 0, mode := 1 } i (v &&& 255#32) = fWith { m with wait := 0, mode := 1 } 48#32 := by
        unfold fErase
        rw [if_pos hc]
      rw [E]
      clear E hw hc
      have HN := Lib.hid (rf_len r { m with wait := 0, mode := 1 })
      have HN2 := Lib.hid (rf_len r (fWith { m with wait := 0, mode := 1 } 48#32))
      have HC := Lib.hid (fun W => rwith_any r { m with wait := 0, mode := 1 } 48#32 W)
      go_enter Try.func69, Try.ntmps69
      go_wp2_with (first
        | (with_reducible refine wpList_ld (.tmp 3) rfl rfl rfl (two_a w (rfCells r { m with wait := 0, mode := 1 })) HN.out ?_)
        | ((with_reducible refine wpList_st (.tmp 6) (.tmp 48) rfl rfl rfl rfl A3'.out rf_zero_len HN2.out (rf_one _ _) ?_); intro w4 A4 T4; have A4' := Lib.hid A4; have T4' := Lib.hid T4; clear A4 T4)
        | (go_at_call 70; (refine (HC.out _).mono ?_); rintro e w3 ⟨rfl, hb3⟩; have HB3 := Lib.hid hb3; have A3' := Lib.hid ((two_b w (rfCells r { m with wait := 0, mode := 1 })).kept (Turned.of_below hb3 (Nat.le_refl _) NoBlock) (fun h => h)); clear hb3))
      exact bodyPost_ret (rf_res1 Try.results69 _ rfl A4'.out HN2.out) rfl ⟨rfl, two_done HB3.out T4'.out⟩
  · -- lock
    rw [fWaited_96 i v e]
    by_cases hc : v &&& 255#32 = 1#32
    · have c1 : (U v % 256 == 1) = true := by rw [U_mod256]; exact U_beq_true (y := 1#32) hc
      have E : fLock { m with wait := 0, mode := 1 } i (v &&& 255#32) = { m with wait := 0, mode := 1, locks := m.locks.set q true } := by
        unfold fLock
        rw [if_pos hc, ← HQ.out]
      rw [E]
      have sl := rf_set_lock r { m with wait := 0, mode := 1 } HL.out q hq64 true
      have HN := Lib.hid (rf_len r { m with wait := 0, mode := 1, locks := m.locks.set q true })
      clear E hw hc
      go_enter Try.func69, Try.ntmps69
      go_wp2_with (first
        | (with_reducible refine wpList_ld (.tmp 3) rfl rfl rfl (two_a w (rfCells r { m with wait := 0, mode := 1, locks := m.locks.set q true })) HN.out ?_)
        | ((with_reducible refine wpList_st (.tmp 6) (.tmp 79) rfl rfl rfl rfl (two_b w (rfCells r { m with wait := 0, mode := 1, locks := m.locks.set q true })) rf_zero_len HN.out (rf_one _ _) ?_); intro w4 A4 T4; have A4' := Lib.hid A4; have T4' := Lib.hid T4; clear A4 T4))
      exact bodyPost_ret (rf_res1 Try.results69 _ rfl A4'.out HN.out) rfl ⟨rfl, two_done0 T4'.out⟩
    have c1 : (U v % 256 == 1) = false := by rw [U_mod256]; exact U_beq_false (y := 1#32) hc
    by_cases hc2 : v &&& 255#32 = 208#32
    · have c2 : (U v % 256 == 208) = true := by rw [U_mod256]; exact U_beq_true (y := 208#32) hc2
      have E : fLock { m with wait := 0, mode := 1 } i (v &&& 255#32) = { m with wait := 0, mode := 1, locks := m.locks.set q false } := by
        unfold fLock
        rw [if_neg hc, if_pos hc2, ← HQ.out]
      rw [E]
      have sl := rf_set_lock r { m with wait := 0, mode := 1 } HL.out q hq64 false
      have HN := Lib.hid (rf_len r { m with wait := 0, mode := 1, locks := m.locks.set q false })
      clear E hw hc hc2
      go_enter Try.func69, Try.ntmps69
      go_wp2_with (first
        | (with_reducible refine wpList_ld (.tmp 3) rfl rfl rfl (two_a w (rfCells r { m with wait := 0, mode := 1, locks := m.locks.set q false })) HN.out ?_)
        | ((with_reducible refine wpList_st (.tmp 6) (.tmp 79) rfl rfl rfl rfl (two_b w (rfCells r { m with wait := 0, mode := 1, locks := m.locks.set q false })) rf_zero_len HN.out (rf_one _ _) ?_); intro w4 A4 T4; have A4' := Lib.hid A4; have T4' := Lib.hid T4; clear A4 T4))
      exact bodyPost_ret (rf_res1 Try.results69 _ rfl A4'.out HN.out) rfl ⟨rfl, two_done0 T4'.out⟩
    · have c2 : (U v % 256 == 208) = false := by rw [U_mod256]; exact U_beq_false (y := 208#32) hc2
      have E : fLock { m with wait := 0, mode := 1 } i (v &&& 255#32) = fWith { m with wait := 0, mode := 1 } 48#32 := by
        unfold fLock
        rw [if_neg hc, if_neg hc2]
      rw [E]
      clear E hw hc hc2
      have HN := Lib.hid (rf_len r { m with wait := 0, mode := 1 })
      have HN2 := Lib.hid (rf_len r (fWith { m with wait := 0, mode := 1 } 48#32))
      have HC := Lib.hid (fun W => rwith_any r { m with wait := 0, mode := 1 } 48#32 W)
      go_enter Try.func69, Try.ntmps69
      go_wp2_with (first
        | (with_reducible refine wpList_ld (.tmp 3) rfl rfl rfl (two_a w (rfCells r { m with wait := 0, mode := 1 })) HN.out ?_)
        | ((with_reducible refine wpList_st (.tmp 6) (.tmp 22) rfl rfl rfl rfl A3'.out rf_zero_len HN2.out (rf_one _ _) ?_); intro w4 A4 T4; have A4' := Lib.hid A4; have T4' := Lib.hid T4; clear A4 T4)
        | (go_at_call 70; (refine (HC.out _).mono ?_); rintro e w3 ⟨rfl, hb3⟩; have HB3 := Lib.hid hb3; have A3' := Lib.hid ((two_b w (rfCells r { m with wait := 0, mode := 1 })).kept (Turned.of_below hb3 (Nat.le_refl _) NoBlock) (fun h => h)); clear hb3))
      exact bodyPost_ret (rf_res1 Try.results69 _ rfl A4'.out HN2.out) rfl ⟨rfl, two_done HB3.out T4'.out⟩
end Go.Proofs.Ytfckgfimmoinmaa

namespace Go.Proofs.Ytfckgfimmoinmaa
open Go.RowKit Bm

/-- The document's answer: a flash, and a number. -/
def GivesF (r : Rh) (x : FlashM × Int) (w : World) (e : Ending) (w' : World) : Prop := Gives (.tuple #[rfVal r x.1, .int .i64 x.2]) w e w'
theorem givesF_mk {r : Rh} {m : FlashM} {n : Int} {x : FlashM × Int} {w w' : World} (e : x = (m, n)) (hb : Below w.heap.size w w') : GivesF r x w (.returned (.tuple #[.agg (rfCells r m).toArray, .int .i64 n])) w' := by
  subst e
  exact ⟨rfl, hb⟩

set_option maxRecDepth 100000 in
set_option maxHeartbeats 8000000 in
theorem rwrite_any (r : Rh) (m : FlashM) (k : Nat) (a : Int) (v : BitVec 32) (w : World) (ok : FlashOk k m) :
    Calls Try.prog 58 #[rfVal r m, .int .i64 a, .int .u32 (U v)] w (GivesF r (fWrite m a v) w) := by
  have hz := rf_zero
  have HN := Lib.hid (rf_len r m)
  have T0 := Lib.hid (Two.start w (rfCells r m))
  have HC := Lib.hid (fun W => rwrong_any r m a W)
  by_cases r0 : fRefuse m a = 0
  case neg =>
    have E := Lib.hid (fWrite_no v r0)
    have q0 : (fRefuse m a != 0) = true := by rw [bne_iff_ne]; exact r0
    clear r0 ok
    change Calls _ _ #[.agg (rfCells r m).toArray, _, _] _ _
    go_enter Try.func58, Try.ntmps58
    go_wp2_with (first
    | (with_reducible refine wpList_ld (.tmp 3) rfl rfl rfl T0.out.a HN.out ?_)
    | (with_reducible refine wpList_ld (.tmp 3) rfl rfl rfl T1.out.a HN.out ?_)
    | (go_at_call 63; (refine (HC.out _).mono ?_); rintro e w1 ⟨rfl, hb1⟩; have T1 := Lib.hid (T0.out.call hb1); clear hb1; have g6 := T1.out.a.cell 6; have g7 := T1.out.a.cell 7; have g8 := T1.out.a.cell 8; have g73 := T1.out.a.cell 73; have f6 := T1.out.a.frozen 6; have f7 := T1.out.a.frozen 7; have f8 := T1.out.a.frozen 8; simp only [rfg6, rfg7, rfg8, rfg73] at g6 g7 g8 g73)
    | ((with_reducible refine wpList_st (.tmp 6) (.tmp 19) rfl rfl rfl rfl T1.out.b rf_zero_len HN.out (rf_one _ _) ?_); intro w4 A4 T4; have A4' := Lib.hid A4; have T4' := Lib.hid T4; clear A4 T4))
    exact bodyPost_ret (rf_res2 Try.results58 _ rfl rfl A4'.out HN.out) rfl (givesF_mk E.out (T1.out.done T4'.out))
  rw [r0] at HC
  obtain ⟨_, a0, a1⟩ := fRefuse_zero r0
  obtain ⟨i, rfl⟩ := Int.eq_ofNat_of_zero_le a0
  have hi : i < 4096 := by have := ok.len; omega
  by_cases j : m.job = 0
  case neg =>
    have E : Hid (fWrite m i v = (m, 0)) := Lib.hid (by rw [fWrite_yes v r0, fWriteDo_busy i v j])
    have q1 : (m.job != 0) = true := by rw [bne_iff_ne]; exact j
    clear r0 ok a0 a1 hi j
    change Calls _ _ #[.agg (rfCells r m).toArray, _, _] _ _
    go_enter Try.func58, Try.ntmps58
    go_wp2_with (first
    | (with_reducible refine wpList_ld (.tmp 3) rfl rfl rfl T0.out.a HN.out ?_)
    | (with_reducible refine wpList_ld (.tmp 3) rfl rfl rfl T1.out.a HN.out ?_)
    | (go_at_call 63; (refine (HC.out _).mono ?_); rintro e w1 ⟨rfl, hb1⟩; have T1 := Lib.hid (T0.out.call hb1); clear hb1; have g6 := T1.out.a.cell 6; have g7 := T1.out.a.cell 7; have g8 := T1.out.a.cell 8; have g73 := T1.out.a.cell 73; have f6 := T1.out.a.frozen 6; have f7 := T1.out.a.frozen 7; have f8 := T1.out.a.frozen 8; simp only [rfg6, rfg7, rfg8, rfg73] at g6 g7 g8 g73)
    | ((with_reducible refine wpList_st (.tmp 6) (.tmp 19) rfl rfl rfl rfl T1.out.b rf_zero_len HN.out (rf_one _ _) ?_); intro w4 A4 T4; have A4' := Lib.hid A4; have T4' := Lib.hid T4; clear A4 T4))
    exact bodyPost_ret (rf_res2 Try.results58 _ rfl rfl A4'.out HN.out) rfl (givesF_mk E.out (T1.out.done T4'.out))
  by_cases hw : m.wait = 0
  case neg =>
    have E : Hid (fWrite m i v = (fWaited m i v, 0)) := Lib.hid (by rw [fWrite_yes v r0]; unfold fWriteDo; rw [if_neg (by simpa using j), if_pos hw])
    have HD := Lib.hid (fun W => waited_any r m k i v W ok hw hi)
    have HN2 := Lib.hid (rf_len r (fWaited m i v))
    have q2 : (m.wait != 0) = true := by rw [bne_iff_ne]; exact hw
    clear r0 ok a0 a1 hi hw
    change Calls _ _ #[.agg (rfCells r m).toArray, _, _] _ _
    go_enter Try.func58, Try.ntmps58
    go_wp2_with (first
    | (with_reducible refine wpList_ld (.tmp 3) rfl rfl rfl T0.out.a HN.out ?_)
    | (with_reducible refine wpList_ld (.tmp 3) rfl rfl rfl T1.out.a HN.out ?_)
    | (go_at_call 63; (refine (HC.out _).mono ?_); rintro e w1 ⟨rfl, hb1⟩; have T1 := Lib.hid (T0.out.call hb1); clear hb1; have g6 := T1.out.a.cell 6; have g7 := T1.out.a.cell 7; have g8 := T1.out.a.cell 8; have g73 := T1.out.a.cell 73; have f6 := T1.out.a.frozen 6; have f7 := T1.out.a.frozen 7; have f8 := T1.out.a.frozen 8; simp only [rfg6, rfg7, rfg8, rfg73] at g6 g7 g8 g73)
    | (go_at_call 69; (refine (HD.out _).mono ?_); rintro e w2 ⟨rfl, hb2⟩; simp only [rfVal]; have TT := Lib.hid (T1.out.call hb2); clear hb2)
    | ((with_reducible refine wpList_st (.tmp 6) (.tmp 27) rfl rfl rfl rfl TT.out.b rf_zero_len HN2.out (rf_one _ _) ?_); intro w4 A4 T4; have A4' := Lib.hid A4; have T4' := Lib.hid T4; clear A4 T4))
    exact bodyPost_ret (rf_res2 Try.results58 _ rfl rfl A4'.out HN2.out) rfl (givesF_mk E.out (TT.out.done T4'.out))
  have E : fWrite m i v = (fCommand m (v &&& 255#32), 0) := by
    rw [fWrite_yes v r0]
    unfold fWriteDo
    rw [if_neg (by simpa using j), if_neg (by simpa using hw)]
  have um := U_mod256 v
  rw [E]
  have u0 := U_nonneg v
  have J := Lib.hid j
  have HWT := Lib.hid hw
  clear r0 ok a0 a1 hi E j hw
  change Calls _ _ #[.agg (rfCells r m).toArray, _, _] _ _
  by_cases h255 : v &&& 255#32 = 255#32
  · have e : fCommand m (v &&& 255#32) = { m with mode := 0 } := by
      rw [h255]
      unfold fCommand
      exact if_pos rfl
    rw [e]
    have HN2 := Lib.hid (rf_len r { m with mode := 0 })
    rw [h255, show U 255#32 = 255 from rfl] at um
    clear e h255
    go_enter Try.func58, Try.ntmps58
    go_wp2_with (first
    | (with_reducible refine wpList_ld (.tmp 3) rfl rfl rfl T0.out.a HN.out ?_)
    | (go_at_call 63; (refine (HC.out _).mono ?_); rintro e w1 ⟨rfl, hb1⟩; have T1 := Lib.hid (T0.out.call hb1); clear hb1; have g6 := T1.out.a.cell 6; have g7 := T1.out.a.cell 7; have g8 := T1.out.a.cell 8; have g73 := T1.out.a.cell 73; have f6 := T1.out.a.frozen 6; have f7 := T1.out.a.frozen 7; have f8 := T1.out.a.frozen 8; simp only [rfg6, rfg7, rfg8, rfg73] at g6 g7 g8 g73; rw [HWT.out] at g7; rw [J.out] at g73)
    | (with_reducible refine wpList_ld (.tmp 3) rfl rfl rfl (((T1.out.put 6 (.int .i64 1) (rfs6 r m 1)).put 6 (.int .i64 0) (rfs6 r { m with mode := 1 } 0))).a HN2.out ?_)
    | ((with_reducible refine wpList_st (.tmp 6) (.tmp 55) rfl rfl rfl rfl (((T1.out.put 6 (.int .i64 1) (rfs6 r m 1)).put 6 (.int .i64 0) (rfs6 r { m with mode := 1 } 0))).b rf_zero_len HN2.out (rf_one _ _) ?_); intro w4 A4 T4; have A4' := Lib.hid A4; have T4' := Lib.hid T4; clear A4 T4))
    exact bodyPost_ret (rf_res2 Try.results58 _ rfl rfl A4'.out HN2.out) rfl (givesF_mk rfl (((T1.out.put 6 (.int .i64 1) (rfs6 r m 1)).put 6 (.int .i64 0) (rfs6 r { m with mode := 1 } 0)).done T4'.out))
  by_cases h112 : v &&& 255#32 = 112#32
  · have e : fCommand m (v &&& 255#32) = { m with mode := 1 } := by
      rw [h112]
      unfold fCommand
      rw [if_neg (by decide)]
      exact if_pos rfl
    rw [e]
    have HN2 := Lib.hid (rf_len r { m with mode := 1 })
    rw [h112, show U 112#32 = 112 from rfl] at um
    clear e h112
    go_enter Try.func58, Try.ntmps58
    go_wp2_with (first
    | (with_reducible refine wpList_ld (.tmp 3) rfl rfl rfl T0.out.a HN.out ?_)
    | (go_at_call 63; (refine (HC.out _).mono ?_); rintro e w1 ⟨rfl, hb1⟩; have T1 := Lib.hid (T0.out.call hb1); clear hb1; have g6 := T1.out.a.cell 6; have g7 := T1.out.a.cell 7; have g8 := T1.out.a.cell 8; have g73 := T1.out.a.cell 73; have f6 := T1.out.a.frozen 6; have f7 := T1.out.a.frozen 7; have f8 := T1.out.a.frozen 8; simp only [rfg6, rfg7, rfg8, rfg73] at g6 g7 g8 g73; rw [HWT.out] at g7; rw [J.out] at g73)
    | (with_reducible refine wpList_ld (.tmp 3) rfl rfl rfl ((T1.out.put 6 (.int .i64 1) (rfs6 r m 1))).a HN2.out ?_)
    | ((with_reducible refine wpList_st (.tmp 6) (.tmp 55) rfl rfl rfl rfl ((T1.out.put 6 (.int .i64 1) (rfs6 r m 1))).b rf_zero_len HN2.out (rf_one _ _) ?_); intro w4 A4 T4; have A4' := Lib.hid A4; have T4' := Lib.hid T4; clear A4 T4))
    exact bodyPost_ret (rf_res2 Try.results58 _ rfl rfl A4'.out HN2.out) rfl (givesF_mk rfl ((T1.out.put 6 (.int .i64 1) (rfs6 r m 1)).done T4'.out))
  by_cases h144 : v &&& 255#32 = 144#32
  · have e : fCommand m (v &&& 255#32) = { m with mode := 2 } := by
      rw [h144]
      unfold fCommand
      rw [if_neg (by decide)]
      rw [if_neg (by decide)]
      exact if_pos rfl
    rw [e]
    have HN2 := Lib.hid (rf_len r { m with mode := 2 })
    rw [h144, show U 144#32 = 144 from rfl] at um
    clear e h144
    go_enter Try.func58, Try.ntmps58
    go_wp2_with (first
    | (with_reducible refine wpList_ld (.tmp 3) rfl rfl rfl T0.out.a HN.out ?_)
    | (go_at_call 63; (refine (HC.out _).mono ?_); rintro e w1 ⟨rfl, hb1⟩; have T1 := Lib.hid (T0.out.call hb1); clear hb1; have g6 := T1.out.a.cell 6; have g7 := T1.out.a.cell 7; have g8 := T1.out.a.cell 8; have g73 := T1.out.a.cell 73; have f6 := T1.out.a.frozen 6; have f7 := T1.out.a.frozen 7; have f8 := T1.out.a.frozen 8; simp only [rfg6, rfg7, rfg8, rfg73] at g6 g7 g8 g73; rw [HWT.out] at g7; rw [J.out] at g73)
    | (with_reducible refine wpList_ld (.tmp 3) rfl rfl rfl (((T1.out.put 6 (.int .i64 1) (rfs6 r m 1)).put 6 (.int .i64 2) (rfs6 r { m with mode := 1 } 2))).a HN2.out ?_)
    | ((with_reducible refine wpList_st (.tmp 6) (.tmp 55) rfl rfl rfl rfl (((T1.out.put 6 (.int .i64 1) (rfs6 r m 1)).put 6 (.int .i64 2) (rfs6 r { m with mode := 1 } 2))).b rf_zero_len HN2.out (rf_one _ _) ?_); intro w4 A4 T4; have A4' := Lib.hid A4; have T4' := Lib.hid T4; clear A4 T4))
    exact bodyPost_ret (rf_res2 Try.results58 _ rfl rfl A4'.out HN2.out) rfl (givesF_mk rfl (((T1.out.put 6 (.int .i64 1) (rfs6 r m 1)).put 6 (.int .i64 2) (rfs6 r { m with mode := 1 } 2)).done T4'.out))
  by_cases h152 : v &&& 255#32 = 152#32
  · have e : fCommand m (v &&& 255#32) = { m with mode := 3 } := by
      rw [h152]
      unfold fCommand
      rw [if_neg (by decide)]
      rw [if_neg (by decide)]
      rw [if_neg (by decide)]
      exact if_pos rfl
    rw [e]
    have HN2 := Lib.hid (rf_len r { m with mode := 3 })
    rw [h152, show U 152#32 = 152 from rfl] at um
    clear e h152
    go_enter Try.func58, Try.ntmps58
    go_wp2_with (first
    | (with_reducible refine wpList_ld (.tmp 3) rfl rfl rfl T0.out.a HN.out ?_)
    | (go_at_call 63; (refine (HC.out _).mono ?_); rintro e w1 ⟨rfl, hb1⟩; have T1 := Lib.hid (T0.out.call hb1); clear hb1; have g6 := T1.out.a.cell 6; have g7 := T1.out.a.cell 7; have g8 := T1.out.a.cell 8; have g73 := T1.out.a.cell 73; have f6 := T1.out.a.frozen 6; have f7 := T1.out.a.frozen 7; have f8 := T1.out.a.frozen 8; simp only [rfg6, rfg7, rfg8, rfg73] at g6 g7 g8 g73; rw [HWT.out] at g7; rw [J.out] at g73)
    | (with_reducible refine wpList_ld (.tmp 3) rfl rfl rfl (((T1.out.put 6 (.int .i64 1) (rfs6 r m 1)).put 6 (.int .i64 3) (rfs6 r { m with mode := 1 } 3))).a HN2.out ?_)
    | ((with_reducible refine wpList_st (.tmp 6) (.tmp 55) rfl rfl rfl rfl (((T1.out.put 6 (.int .i64 1) (rfs6 r m 1)).put 6 (.int .i64 3) (rfs6 r { m with mode := 1 } 3))).b rf_zero_len HN2.out (rf_one _ _) ?_); intro w4 A4 T4; have A4' := Lib.hid A4; have T4' := Lib.hid T4; clear A4 T4))
    exact bodyPost_ret (rf_res2 Try.results58 _ rfl rfl A4'.out HN2.out) rfl (givesF_mk rfl (((T1.out.put 6 (.int .i64 1) (rfs6 r m 1)).put 6 (.int .i64 3) (rfs6 r { m with mode := 1 } 3)).done T4'.out))
  by_cases h80 : v &&& 255#32 = 80#32
  · have e : fCommand m (v &&& 255#32) = { m with mode := 1, errors := 0#32 } := by
      rw [h80]
      unfold fCommand
      rw [if_neg (by decide)]
      rw [if_neg (by decide)]
      rw [if_neg (by decide)]
      rw [if_neg (by decide)]
      exact if_pos rfl
    rw [e]
    have HN2 := Lib.hid (rf_len r { m with mode := 1, errors := 0#32 })
    rw [h80, show U 80#32 = 80 from rfl] at um
    clear e h80
    go_enter Try.func58, Try.ntmps58
    go_wp2_with (first
    | (with_reducible refine wpList_ld (.tmp 3) rfl rfl rfl T0.out.a HN.out ?_)
    | (go_at_call 63; (refine (HC.out _).mono ?_); rintro e w1 ⟨rfl, hb1⟩; have T1 := Lib.hid (T0.out.call hb1); clear hb1; have g6 := T1.out.a.cell 6; have g7 := T1.out.a.cell 7; have g8 := T1.out.a.cell 8; have g73 := T1.out.a.cell 73; have f6 := T1.out.a.frozen 6; have f7 := T1.out.a.frozen 7; have f8 := T1.out.a.frozen 8; simp only [rfg6, rfg7, rfg8, rfg73] at g6 g7 g8 g73; rw [HWT.out] at g7; rw [J.out] at g73)
    | (with_reducible refine wpList_ld (.tmp 3) rfl rfl rfl (((T1.out.put 6 (.int .i64 1) (rfs6 r m 1)).put 8 (.int .u32 0) (rfs80 r { m with mode := 1 }))).a HN2.out ?_)
    | ((with_reducible refine wpList_st (.tmp 6) (.tmp 55) rfl rfl rfl rfl (((T1.out.put 6 (.int .i64 1) (rfs6 r m 1)).put 8 (.int .u32 0) (rfs80 r { m with mode := 1 }))).b rf_zero_len HN2.out (rf_one _ _) ?_); intro w4 A4 T4; have A4' := Lib.hid A4; have T4' := Lib.hid T4; clear A4 T4))
    exact bodyPost_ret (rf_res2 Try.results58 _ rfl rfl A4'.out HN2.out) rfl (givesF_mk rfl (((T1.out.put 6 (.int .i64 1) (rfs6 r m 1)).put 8 (.int .u32 0) (rfs80 r { m with mode := 1 })).done T4'.out))
  by_cases h64 : v &&& 255#32 = 64#32
  · have e : fCommand m (v &&& 255#32) = { m with mode := 1, wait := 64 } := by
      rw [h64]
      unfold fCommand
      rw [if_neg (by decide)]
      rw [if_neg (by decide)]
      rw [if_neg (by decide)]
      rw [if_neg (by decide)]
      rw [if_neg (by decide)]
      exact if_pos rfl
    rw [e]
    have HN2 := Lib.hid (rf_len r { m with mode := 1, wait := 64 })
    rw [h64, show U 64#32 = 64 from rfl] at um
    clear e h64
    go_enter Try.func58, Try.ntmps58
    go_wp2_with (first
    | (with_reducible refine wpList_ld (.tmp 3) rfl rfl rfl T0.out.a HN.out ?_)
    | (go_at_call 63; (refine (HC.out _).mono ?_); rintro e w1 ⟨rfl, hb1⟩; have T1 := Lib.hid (T0.out.call hb1); clear hb1; have g6 := T1.out.a.cell 6; have g7 := T1.out.a.cell 7; have g8 := T1.out.a.cell 8; have g73 := T1.out.a.cell 73; have f6 := T1.out.a.frozen 6; have f7 := T1.out.a.frozen 7; have f8 := T1.out.a.frozen 8; simp only [rfg6, rfg7, rfg8, rfg73] at g6 g7 g8 g73; rw [HWT.out] at g7; rw [J.out] at g73)
    | (with_reducible refine wpList_ld (.tmp 3) rfl rfl rfl (((T1.out.put 6 (.int .i64 1) (rfs6 r m 1)).put 7 (.int .i64 64) (rfs7 r { m with mode := 1 } 64))).a HN2.out ?_)
    | ((with_reducible refine wpList_st (.tmp 6) (.tmp 55) rfl rfl rfl rfl (((T1.out.put 6 (.int .i64 1) (rfs6 r m 1)).put 7 (.int .i64 64) (rfs7 r { m with mode := 1 } 64))).b rf_zero_len HN2.out (rf_one _ _) ?_); intro w4 A4 T4; have A4' := Lib.hid A4; have T4' := Lib.hid T4; clear A4 T4))
    exact bodyPost_ret (rf_res2 Try.results58 _ rfl rfl A4'.out HN2.out) rfl (givesF_mk rfl (((T1.out.put 6 (.int .i64 1) (rfs6 r m 1)).put 7 (.int .i64 64) (rfs7 r { m with mode := 1 } 64)).done T4'.out))
  by_cases h32 : v &&& 255#32 = 32#32
  · have e : fCommand m (v &&& 255#32) = { m with mode := 1, wait := 32 } := by
      rw [h32]
      unfold fCommand
      rw [if_neg (by decide)]
      rw [if_neg (by decide)]
      rw [if_neg (by decide)]
      rw [if_neg (by decide)]
      rw [if_neg (by decide)]
      rw [if_neg (by decide)]
      exact if_pos rfl
    rw [e]
    have HN2 := Lib.hid (rf_len r { m with mode := 1, wait := 32 })
    rw [h32, show U 32#32 = 32 from rfl] at um
    clear e h32
    go_enter Try.func58, Try.ntmps58
    go_wp2_with (first
    | (with_reducible refine wpList_ld (.tmp 3) rfl rfl rfl T0.out.a HN.out ?_)
    | (go_at_call 63; (refine (HC.out _).mono ?_); rintro e w1 ⟨rfl, hb1⟩; have T1 := Lib.hid (T0.out.call hb1); clear hb1; have g6 := T1.out.a.cell 6; have g7 := T1.out.a.cell 7; have g8 := T1.out.a.cell 8; have g73 := T1.out.a.cell 73; have f6 := T1.out.a.frozen 6; have f7 := T1.out.a.frozen 7; have f8 := T1.out.a.frozen 8; simp only [rfg6, rfg7, rfg8, rfg73] at g6 g7 g8 g73; rw [HWT.out] at g7; rw [J.out] at g73)
    | (with_reducible refine wpList_ld (.tmp 3) rfl rfl rfl (((T1.out.put 6 (.int .i64 1) (rfs6 r m 1)).put 7 (.int .i64 32) (rfs7 r { m with mode := 1 } 32))).a HN2.out ?_)
    | ((with_reducible refine wpList_st (.tmp 6) (.tmp 55) rfl rfl rfl rfl (((T1.out.put 6 (.int .i64 1) (rfs6 r m 1)).put 7 (.int .i64 32) (rfs7 r { m with mode := 1 } 32))).b rf_zero_len HN2.out (rf_one _ _) ?_); intro w4 A4 T4; have A4' := Lib.hid A4; have T4' := Lib.hid T4; clear A4 T4))
    exact bodyPost_ret (rf_res2 Try.results58 _ rfl rfl A4'.out HN2.out) rfl (givesF_mk rfl (((T1.out.put 6 (.int .i64 1) (rfs6 r m 1)).put 7 (.int .i64 32) (rfs7 r { m with mode := 1 } 32)).done T4'.out))
  by_cases h96 : v &&& 255#32 = 96#32
  · have e : fCommand m (v &&& 255#32) = { m with mode := 1, wait := 96 } := by
      rw [h96]
      unfold fCommand
      rw [if_neg (by decide)]
      rw [if_neg (by decide)]
      rw [if_neg (by decide)]
      rw [if_neg (by decide)]
      rw [if_neg (by decide)]
      rw [if_neg (by decide)]
      rw [if_neg (by decide)]
      exact if_pos rfl
    rw [e]
    have HN2 := Lib.hid (rf_len r { m with mode := 1, wait := 96 })
    rw [h96, show U 96#32 = 96 from rfl] at um
    clear e h96
    go_enter Try.func58, Try.ntmps58
    go_wp2_with (first
    | (with_reducible refine wpList_ld (.tmp 3) rfl rfl rfl T0.out.a HN.out ?_)
    | (go_at_call 63; (refine (HC.out _).mono ?_); rintro e w1 ⟨rfl, hb1⟩; have T1 := Lib.hid (T0.out.call hb1); clear hb1; have g6 := T1.out.a.cell 6; have g7 := T1.out.a.cell 7; have g8 := T1.out.a.cell 8; have g73 := T1.out.a.cell 73; have f6 := T1.out.a.frozen 6; have f7 := T1.out.a.frozen 7; have f8 := T1.out.a.frozen 8; simp only [rfg6, rfg7, rfg8, rfg73] at g6 g7 g8 g73; rw [HWT.out] at g7; rw [J.out] at g73)
    | (with_reducible refine wpList_ld (.tmp 3) rfl rfl rfl (((T1.out.put 6 (.int .i64 1) (rfs6 r m 1)).put 7 (.int .i64 96) (rfs7 r { m with mode := 1 } 96))).a HN2.out ?_)
    | ((with_reducible refine wpList_st (.tmp 6) (.tmp 55) rfl rfl rfl rfl (((T1.out.put 6 (.int .i64 1) (rfs6 r m 1)).put 7 (.int .i64 96) (rfs7 r { m with mode := 1 } 96))).b rf_zero_len HN2.out (rf_one _ _) ?_); intro w4 A4 T4; have A4' := Lib.hid A4; have T4' := Lib.hid T4; clear A4 T4))
    exact bodyPost_ret (rf_res2 Try.results58 _ rfl rfl A4'.out HN2.out) rfl (givesF_mk rfl (((T1.out.put 6 (.int .i64 1) (rfs6 r m 1)).put 7 (.int .i64 96) (rfs7 r { m with mode := 1 } 96)).done T4'.out))
  have q255 : (U v % 256 == 255) = false := by rw [um]; exact U_beq_false (y := 255#32) h255
  have q112 : (U v % 256 == 112) = false := by rw [um]; exact U_beq_false (y := 112#32) h112
  have q144 : (U v % 256 == 144) = false := by rw [um]; exact U_beq_false (y := 144#32) h144
  have q152 : (U v % 256 == 152) = false := by rw [um]; exact U_beq_false (y := 152#32) h152
  have q80 : (U v % 256 == 80) = false := by rw [um]; exact U_beq_false (y := 80#32) h80
  have q64 : (U v % 256 == 64) = false := by rw [um]; exact U_beq_false (y := 64#32) h64
  have q32 : (U v % 256 == 32) = false := by rw [um]; exact U_beq_false (y := 32#32) h32
  have q96 : (U v % 256 == 96) = false := by rw [um]; exact U_beq_false (y := 96#32) h96
  have e : fCommand m (v &&& 255#32) = fWith { m with mode := 1 } 48#32 := by
    unfold fCommand
    rw [if_neg h255, if_neg h112, if_neg h144, if_neg h152, if_neg h80, if_neg h64, if_neg h32, if_neg h96]
  rw [e]
  have HN2 := Lib.hid (rf_len r { m with mode := 1 })
  have HN3 := Lib.hid (rf_len r (fWith { m with mode := 1 } 48#32))
  have HD := Lib.hid (fun W => rwith_any r { m with mode := 1 } 48#32 W)
  clear e um h255 h112 h144 h152 h80 h64 h32 h96
  go_enter Try.func58, Try.ntmps58
  go_wp2_with (first
    | (with_reducible refine wpList_ld (.tmp 3) rfl rfl rfl T0.out.a HN.out ?_)
    | (go_at_call 63; (refine (HC.out _).mono ?_); rintro e w1 ⟨rfl, hb1⟩; have T1 := Lib.hid (T0.out.call hb1); clear hb1; have g6 := T1.out.a.cell 6; have g7 := T1.out.a.cell 7; have g8 := T1.out.a.cell 8; have g73 := T1.out.a.cell 73; have f6 := T1.out.a.frozen 6; have f7 := T1.out.a.frozen 7; have f8 := T1.out.a.frozen 8; simp only [rfg6, rfg7, rfg8, rfg73] at g6 g7 g8 g73; rw [HWT.out] at g7; rw [J.out] at g73)
    | (with_reducible refine wpList_ld (.tmp 3) rfl rfl rfl ((T1.out.put 6 (.int .i64 1) (rfs6 r m 1))).a HN2.out ?_)
    | (go_at_call 70; (refine (HD.out _).mono ?_); rintro e w2 ⟨rfl, hb2⟩; simp only [rfVal]; have T2 := Lib.hid (((T1.out.put 6 (.int .i64 1) (rfs6 r m 1))).call hb2); clear hb2)
    | ((with_reducible refine wpList_st (.tmp 3) (.tmp 32) rfl rfl rfl rfl T2.out.a HN2.out HN3.out (rf_one _ _) ?_); intro w3 A3 T3; have TT := Lib.hid (T2.out.st1 A3 T3); clear A3 T3)
    | (with_reducible refine wpList_ld (.tmp 3) rfl rfl rfl TT.out.a HN3.out ?_)
    | ((with_reducible refine wpList_st (.tmp 6) (.tmp 55) rfl rfl rfl rfl TT.out.b rf_zero_len HN3.out (rf_one _ _) ?_); intro w4 A4 T4; have A4' := Lib.hid A4; have T4' := Lib.hid T4; clear A4 T4))
  exact bodyPost_ret (rf_res2 Try.results58 _ rfl rfl A4'.out HN3.out) rfl (givesF_mk rfl (TT.out.done T4'.out))
end Go.Proofs.Ytfckgfimmoinmaa
