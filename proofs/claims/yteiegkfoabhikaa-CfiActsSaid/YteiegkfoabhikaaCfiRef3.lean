/- The contract of the document's flash: waited. -/
import Derived.Test.YteiegkfoabhikaaCfiRef2
import Derived.Test.YteiegkfoabhikaaCfiFacts2
namespace Go.Proofs.Yteiegkfoabhikaa
open Go.RowKit Bm

theorem U_mod256 (v : BitVec 32) : U v % 256 = U (v &&& 255#32) := by
  have h : (v &&& 255#32).toNat = v.toNat % 256 := by
    rw [BitVec.toNat_and]
    exact Nat.and_two_pow_sub_one_eq_mod v.toNat 8
  unfold U
  rw [h]
  omega

theorem fWaited_64 {m : FlashM} (i : Nat) (v : BitVec 32) (k : m.wait = 64) : fWaited m i v = fProgram { m with wait := 0, mode := 1 } i v := by unfold fWaited; rw [if_pos k]
theorem fWaited_32 {m : FlashM} (i : Nat) (v : BitVec 32) (k : m.wait = 32) : fWaited m i v = fErase { m with wait := 0, mode := 1 } i (v &&& 255#32) := by unfold fWaited; rw [if_neg (by rw [k]; decide), if_pos k]
theorem fWaited_96 {m : FlashM} (i : Nat) (v : BitVec 32) (k : m.wait = 96) : fWaited m i v = fLock { m with wait := 0, mode := 1 } i (v &&& 255#32) := by unfold fWaited; rw [if_neg (by rw [k]; decide), if_neg (by rw [k]; decide)]

set_option maxRecDepth 100000 in
set_option maxHeartbeats 4000000 in
theorem waited_any (r : Rh) (m : FlashM) (k i : Nat) (v : BitVec 32) (w : World) (ok : FlashOk k m) (hw : m.wait ≠ 0) (hi : i < 4096) :
    Calls Try.prog 48 #[rfVal r m, .int .i64 (i : Int), .int .u32 (U v)] w (Gives (rfVal r (fWaited m i v)) w) := by
  obtain ⟨q, hq⟩ : ∃ q, q = i / 64 := ⟨_, rfl⟩
  have hq64 : q < 64 := by omega
  have hz := rf_zero
  have hl := ok.locks
  have gl : (rfCells r { m with wait := 0, mode := 1 })[9 + q]? = some (.bool (lk m.locks q)) := rf_lock r { m with wait := 0, mode := 1 } q hq64
  have iq : (i : Int) / 64 = (q : Int) := by omega
  have i0 : (0 : Int) ≤ (i : Int) := by omega
  have q0 : (q : Int) < 64 := by omega
  have u0 := U_nonneg v
  have HQ := Lib.hid hq
  have HL := Lib.hid hl
  have w3 := ok.wait
  clear hq hl ok hi
  unfold rfVal
  rcases w3 with e | e | e | e
  · exact absurd e hw
  · -- program
    rw [fWaited_64 i v e]
    cases hk : lk m.locks q
    · rw [hk] at gl
      have E : fProgram { m with wait := 0, mode := 1 } i v = { m with wait := 0, mode := 1, job := 64, at_ := i, v := v, left := 3 } := fProgram_free v (by show lk m.locks (i / 64) = false; rw [← HQ.out]; exact hk)
      rw [E]
      have HN := Lib.hid (rf_len r { m with wait := 0, mode := 1, job := 64, at_ := i, v := v, left := 3 })
      clear E hw
      go_enter Try.func48, Try.ntmps48
      go_wp2_with (first
        | (with_reducible refine wpList_ld (.tmp 3) rfl rfl rfl (two_a w (rfCells r { m with wait := 0, mode := 1, job := 64, at_ := i, v := v, left := 3 })) HN.out ?_)
        | ((with_reducible refine wpList_st (.tmp 6) (.tmp 79) rfl rfl rfl rfl (two_b w (rfCells r { m with wait := 0, mode := 1, job := 64, at_ := i, v := v, left := 3 })) rf_zero_len HN.out (rf_one _ _) ?_); intro w4 A4 T4; have A4' := Lib.hid A4; have T4' := Lib.hid T4; clear A4 T4))
      exact bodyPost_ret (rf_res1 Try.results48 _ rfl A4'.out HN.out) rfl ⟨rfl, two_done0 T4'.out⟩
    · rw [hk] at gl
      have E : fProgram { m with wait := 0, mode := 1 } i v = fWith { m with wait := 0, mode := 1 } 18#32 := fProgram_locked v (by show lk m.locks (i / 64) = true; rw [← HQ.out]; exact hk)
      rw [E]
      clear E hw
      have HN := Lib.hid (rf_len r { m with wait := 0, mode := 1 })
      have HN2 := Lib.hid (rf_len r (fWith { m with wait := 0, mode := 1 } 18#32))
      have HC := Lib.hid (fun W => rwith_any r { m with wait := 0, mode := 1 } 18#32 W)
      go_enter Try.func48, Try.ntmps48
      go_wp2_with (first
        | (with_reducible refine wpList_ld (.tmp 3) rfl rfl rfl (two_a w (rfCells r { m with wait := 0, mode := 1 })) HN.out ?_)
        | ((with_reducible refine wpList_st (.tmp 6) (.tmp 30) rfl rfl rfl rfl A3'.out rf_zero_len HN2.out (rf_one _ _) ?_); intro w4 A4 T4; have A4' := Lib.hid A4; have T4' := Lib.hid T4; clear A4 T4)
        | (go_at_call 44; (refine (HC.out _).mono ?_); rintro e w3 ⟨rfl, hb3⟩; have HB3 := Lib.hid hb3; have A3' := Lib.hid ((two_b w (rfCells r { m with wait := 0, mode := 1 })).kept (Turned.of_below hb3 (Nat.le_refl _) NoBlock) (fun h => h)); clear hb3))
      exact bodyPost_ret (rf_res1 Try.results48 _ rfl A4'.out HN2.out) rfl ⟨rfl, two_done HB3.out T4'.out⟩
  · -- erase
    rw [fWaited_32 i v e]
    by_cases hc : v &&& 255#32 = 208#32
    · have c1 : (U v % 256 != 208) = false := by rw [U_mod256]; exact U_bne_false (y := 208#32) hc
      cases hk : lk m.locks q
      · rw [hk] at gl
        have E : fErase { m with wait := 0, mode := 1 } i (v &&& 255#32) = { m with wait := 0, mode := 1, job := 32, at_ := q, left := 20 } := by
          unfold fErase
          rw [if_neg (by simpa using hc), ← HQ.out, if_neg (by show ¬ lk m.locks q = true; rw [hk]; decide)]
        rw [E]
        have HN := Lib.hid (rf_len r { m with wait := 0, mode := 1, job := 32, at_ := q, left := 20 })
        clear E hw hc
        go_enter Try.func48, Try.ntmps48
        go_wp2_with (first
          | (with_reducible refine wpList_ld (.tmp 3) rfl rfl rfl (two_a w (rfCells r { m with wait := 0, mode := 1, job := 32, at_ := q, left := 20 })) HN.out ?_)
          | ((with_reducible refine wpList_st (.tmp 6) (.tmp 79) rfl rfl rfl rfl (two_b w (rfCells r { m with wait := 0, mode := 1, job := 32, at_ := q, left := 20 })) rf_zero_len HN.out (rf_one _ _) ?_); intro w4 A4 T4; have A4' := Lib.hid A4; have T4' := Lib.hid T4; clear A4 T4))
        exact bodyPost_ret (rf_res1 Try.results48 _ rfl A4'.out HN.out) rfl ⟨rfl, two_done0 T4'.out⟩
      · rw [hk] at gl
        have E : fErase { m with wait := 0, mode := 1 } i (v &&& 255#32) = fWith { m with wait := 0, mode := 1 } 34#32 := by
          unfold fErase
          rw [if_neg (by simpa using hc), ← HQ.out, if_pos (by show lk m.locks q = true; exact hk)]
        rw [E]
        clear E hw hc
        have HN := Lib.hid (rf_len r { m with wait := 0, mode := 1 })
        have HN2 := Lib.hid (rf_len r (fWith { m with wait := 0, mode := 1 } 34#32))
        have HC := Lib.hid (fun W => rwith_any r { m with wait := 0, mode := 1 } 34#32 W)
        go_enter Try.func48, Try.ntmps48
        go_wp2_with (first
          | (with_reducible refine wpList_ld (.tmp 3) rfl rfl rfl (two_a w (rfCells r { m with wait := 0, mode := 1 })) HN.out ?_)
          | ((with_reducible refine wpList_st (.tmp 6) (.tmp 56) rfl rfl rfl rfl A3'.out rf_zero_len HN2.out (rf_one _ _) ?_); intro w4 A4 T4; have A4' := Lib.hid A4; have T4' := Lib.hid T4; clear A4 T4)
          | (go_at_call 44; (refine (HC.out _).mono ?_); rintro e w3 ⟨rfl, hb3⟩; have HB3 := Lib.hid hb3; have A3' := Lib.hid ((two_b w (rfCells r { m with wait := 0, mode := 1 })).kept (Turned.of_below hb3 (Nat.le_refl _) NoBlock) (fun h => h)); clear hb3))
        exact bodyPost_ret (rf_res1 Try.results48 _ rfl A4'.out HN2.out) rfl ⟨rfl, two_done HB3.out T4'.out⟩
    · have c1 : (U v % 256 != 208) = true := by rw [U_mod256]; exact U_bne_true (y := 208#32) hc
      have E : fErase { m with wait := 0, mode := 1 } i (v &&& 255#32) = fWith { m with wait := 0, mode := 1 } 48#32 := by
        unfold fErase
        rw [if_pos hc]
      rw [E]
      clear E hw hc
      have HN := Lib.hid (rf_len r { m with wait := 0, mode := 1 })
      have HN2 := Lib.hid (rf_len r (fWith { m with wait := 0, mode := 1 } 48#32))
      have HC := Lib.hid (fun W => rwith_any r { m with wait := 0, mode := 1 } 48#32 W)
      go_enter Try.func48, Try.ntmps48
      go_wp2_with (first
        | (with_reducible refine wpList_ld (.tmp 3) rfl rfl rfl (two_a w (rfCells r { m with wait := 0, mode := 1 })) HN.out ?_)
        | ((with_reducible refine wpList_st (.tmp 6) (.tmp 48) rfl rfl rfl rfl A3'.out rf_zero_len HN2.out (rf_one _ _) ?_); intro w4 A4 T4; have A4' := Lib.hid A4; have T4' := Lib.hid T4; clear A4 T4)
        | (go_at_call 44; (refine (HC.out _).mono ?_); rintro e w3 ⟨rfl, hb3⟩; have HB3 := Lib.hid hb3; have A3' := Lib.hid ((two_b w (rfCells r { m with wait := 0, mode := 1 })).kept (Turned.of_below hb3 (Nat.le_refl _) NoBlock) (fun h => h)); clear hb3))
      exact bodyPost_ret (rf_res1 Try.results48 _ rfl A4'.out HN2.out) rfl ⟨rfl, two_done HB3.out T4'.out⟩
  · -- lock
    rw [fWaited_96 i v e]
    by_cases hc : v &&& 255#32 = 1#32
    · have c1 : (U v % 256 == 1) = true := by rw [U_mod256]; exact U_beq_true (y := 1#32) hc
      have E : fLock { m with wait := 0, mode := 1 } i (v &&& 255#32) = { m with wait := 0, mode := 1, locks := m.locks.set q true } := by
        unfold fLock
        rw [if_pos hc, ← HQ.out]
      rw [E]
      have sl := rf_set_lock r { m with wait := 0, mode := 1 } HL.out q hq64 true
      have HN := Lib.hid (rf_len r { m with wait := 0, mode := 1, locks := m.locks.set q true })
      clear E hw hc
      go_enter Try.func48, Try.ntmps48
      go_wp2_with (first
        | (with_reducible refine wpList_ld (.tmp 3) rfl rfl rfl (two_a w (rfCells r { m with wait := 0, mode := 1, locks := m.locks.set q true })) HN.out ?_)
        | ((with_reducible refine wpList_st (.tmp 6) (.tmp 79) rfl rfl rfl rfl (two_b w (rfCells r { m with wait := 0, mode := 1, locks := m.locks.set q true })) rf_zero_len HN.out (rf_one _ _) ?_); intro w4 A4 T4; have A4' := Lib.hid A4; have T4' := Lib.hid T4; clear A4 T4))
      exact bodyPost_ret (rf_res1 Try.results48 _ rfl A4'.out HN.out) rfl ⟨rfl, two_done0 T4'.out⟩
    have c1 : (U v % 256 == 1) = false := by rw [U_mod256]; exact U_beq_false (y := 1#32) hc
    by_cases hc2 : v &&& 255#32 = 208#32
    · have c2 : (U v % 256 == 208) = true := by rw [U_mod256]; exact U_beq_true (y := 208#32) hc2
      have E : fLock { m with wait := 0, mode := 1 } i (v &&& 255#32) = { m with wait := 0, mode := 1, locks := m.locks.set q false } := by
        unfold fLock
        rw [if_neg hc, if_pos hc2, ← HQ.out]
      rw [E]
      have sl := rf_set_lock r { m with wait := 0, mode := 1 } HL.out q hq64 false
      have HN := Lib.hid (rf_len r { m with wait := 0, mode := 1, locks := m.locks.set q false })
      clear E hw hc hc2
      go_enter Try.func48, Try.ntmps48
      go_wp2_with (first
        | (with_reducible refine wpList_ld (.tmp 3) rfl rfl rfl (two_a w (rfCells r { m with wait := 0, mode := 1, locks := m.locks.set q false })) HN.out ?_)
        | ((with_reducible refine wpList_st (.tmp 6) (.tmp 79) rfl rfl rfl rfl (two_b w (rfCells r { m with wait := 0, mode := 1, locks := m.locks.set q false })) rf_zero_len HN.out (rf_one _ _) ?_); intro w4 A4 T4; have A4' := Lib.hid A4; have T4' := Lib.hid T4; clear A4 T4))
      exact bodyPost_ret (rf_res1 Try.results48 _ rfl A4'.out HN.out) rfl ⟨rfl, two_done0 T4'.out⟩
    · have c2 : (U v % 256 == 208) = false := by rw [U_mod256]; exact U_beq_false (y := 208#32) hc2
      have E : fLock { m with wait := 0, mode := 1 } i (v &&& 255#32) = fWith { m with wait := 0, mode := 1 } 48#32 := by
        unfold fLock
        rw [if_neg hc, if_neg hc2]
      rw [E]
      clear E hw hc hc2
      have HN := Lib.hid (rf_len r { m with wait := 0, mode := 1 })
      have HN2 := Lib.hid (rf_len r (fWith { m with wait := 0, mode := 1 } 48#32))
      have HC := Lib.hid (fun W => rwith_any r { m with wait := 0, mode := 1 } 48#32 W)
      go_enter Try.func48, Try.ntmps48
      go_wp2_with (first
        | (with_reducible refine wpList_ld (.tmp 3) rfl rfl rfl (two_a w (rfCells r { m with wait := 0, mode := 1 })) HN.out ?_)
        | ((with_reducible refine wpList_st (.tmp 6) (.tmp 22) rfl rfl rfl rfl A3'.out rf_zero_len HN2.out (rf_one _ _) ?_); intro w4 A4 T4; have A4' := Lib.hid A4; have T4' := Lib.hid T4; clear A4 T4)
        | (go_at_call 44; (refine (HC.out _).mono ?_); rintro e w3 ⟨rfl, hb3⟩; have HB3 := Lib.hid hb3; have A3' := Lib.hid ((two_b w (rfCells r { m with wait := 0, mode := 1 })).kept (Turned.of_below hb3 (Nat.le_refl _) NoBlock) (fun h => h)); clear hb3))
      exact bodyPost_ret (rf_res1 Try.results48 _ rfl A4'.out HN2.out) rfl ⟨rfl, two_done HB3.out T4'.out⟩
end Go.Proofs.Yteiegkfoabhikaa
