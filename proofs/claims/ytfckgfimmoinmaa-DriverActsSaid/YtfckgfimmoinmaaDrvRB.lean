/- The document's driver: the contracts of Erase and Lock. | The document's driver: the contract of Lock. -/
import Derived.Test.YtfckgfimmoinmaaDrvRA
import Derived.Deep.DeepCutAuto
namespace Go.Proofs.Ytfckgfimmoinmaa
open Go.RowKit Bm

theorem erM0_chip (m : FlashM) (b : Int) : (erM0 m b).chip = m.chip := by unfold erM0; split <;> rfl
theorem putM_chip (m : FlashM) (a : Int) (v : BitVec 32) : (putM m a v).chip = m.chip := by unfold putM; split <;> rfl

set_option maxRecDepth 100000 in
set_option maxHeartbeats 4000000 in
theorem rerase5_any (r : Rh) (m : FlashM) (t : Int) (k : Nat) (b : Int) (w : World) (h : DrvOk k ⟨m, t⟩) (hc : RefAt w r m.chip) (b0 : -1125899906842624 ≤ b) (b1 : b ≤ 1125899906842624) (t0 : 0 ≤ t) (t1 : t ≤ 100000000000000) :
    Calls Try.prog 16 #[rdVal r m t, .int .i64 b] w (DrvOut r (dErase ⟨m, t⟩ b) w) := by
  have hz := rf_zero
  have hz2 := rd_zero
  obtain ⟨V, hV⟩ : ∃ V, V = (w.alloc (.cells (rdCells r m t).toArray 41)).alloc (.cells rdZero.toArray 41) := ⟨_, rfl⟩
  have P0 : Hid (Pair 41 w (rdCells r m t) rdZero V) := Lib.hid (by rw [hV]; exact Pair.start 41 w (rdCells r m t) rdZero)
  have C0 : Hid (RefAt V r m.chip) := Lib.hid (by rw [hV]; exact hc.below (below_two w _ _))
  have HV := Lib.hid hV
  clear hV
  have wr0 : IntKind.i64.wrap (b * 64) = b * 64 := by rw [IntKind.wrap_i64]; omega
  have ew := erase_writes h.calm b
  have cl := fun W g (hr : ReadsU W (some ⟨g, 0, none⟩) 2 2 [32#32, 208#32]) => rwrites_any r m t k (b * 64) (some ⟨g, 0, none⟩) 2 2 [32#32, 208#32] W h.ok hr (by omega)
  rw [ew] at cl
  clear ew hc
  change Calls _ _ #[.agg (rdCells r m t).toArray, _] _ _
  by_cases hr : fRefuse m (b * 64) = 0
  · rw [if_pos hr] at cl
    have E := Lib.hid (erase_waits h.ok h.calm t b hr)
    have wk := erase_ok h.ok h.calm b hr
    have wl := erase_left h.ok h.calm b
    have wc := erM0_chip m b
    obtain ⟨m1, hm1⟩ : ∃ m1, m1 = erM0 m b := ⟨_, rfl⟩
    rw [← hm1] at cl E wk wl wc
    have CL := Lib.hid cl
    have WA := Lib.hid (fun W hW => rwait_any r m1 t k W wk hW t0 (by omega))
    have WC := Lib.hid wc
    clear cl wk wl wc hr hm1
    go_enter Try.func16, Try.ntmps16
    go_upto_region 1 with fail
    change Code.wp _ _ _ _ ((w.alloc (.cells (rdCells r m t).toArray 41)).alloc (.cells rdZero.toArray 41))
    rw [← HV.out]
    go_wp2_with (first
      | ((refine wpList_ldh (ty := 41) (xs := rdCells r m t) (post := []) _ rfl (by rfl) (by rfl) Try.underlying41 rfl rd_size P0.out.a (List.append_nil _).symm (rd_len _ _ _) ?_))
      | (go_at_call 44; (refine (CL.out _ _ (reads_two V 32#32 208#32)).mono ?_); rintro e w3 ⟨rfl, hb⟩; simp only [rdVal]; have P3 := Lib.hid ((P0.out.alloc (.cells #[.int .u32 (U 32#32), .int .u32 (U 208#32)] 33)).call hb); have C3 := Lib.hid ((C0.out.below ((Below.refl _ V).alloc (Nat.le_refl _) (.cells #[.int .u32 (U 32#32), .int .u32 (U 208#32)] 33))).below hb); clear hb)
      | ((refine wpList_sth (ty := 41) (xs := rdZero) (ys := rdCells r m1 t) (post := []) _ _ rfl (by rfl) (by rfl) (by rfl) rd_size (At.news w3 _ rdZero) (List.append_nil _).symm rdZero_len (rd_len _ _ _) (rd_one _ _ _) ?_); intro w4 A4 T4; have A4' : Hid (At w4 w3.heap.size 41 (rdCells r m1 t)) := Lib.hid (by simpa using A4); have P4 := Lib.hid ((P3.out.alloc _).far P3.out.size T4); have C4 := Lib.hid ((C3.out.below ((Below.refl _ w3).alloc (Nat.le_refl _) (.cells rdZero.toArray 41))).otherT (At.news w3 _ rdZero) (by decide) (by decide) T4); clear A4 T4)
      | ((refine wpList_ldh (ty := 41) (xs := rdCells r m1 t) (post := []) _ rfl (by rfl) (by rfl) Try.underlying41 rfl rd_size A4'.out (List.append_nil _).symm (rd_len _ _ _) ?_))
      | (go_at_call 45; (refine (WA.out _ (by rw [WC.out]; exact C4.out)).mono ?_); rw [E.out]; rintro e w5 ⟨r5, rfl, hc5, hb, hn5⟩; simp only [rdVal]; have P5 := Lib.hid (P4.out.call hb); have C5 := Lib.hid hc5; have N5 := Lib.hid ((RefNew.refl w r).trans (by have := P4.out.size; omega) hn5); clear hc5 hb hn5)
      | ((refine wpList_sth (ty := 41) (xs := rdZero) (ys := rdCells r5 (dErase ⟨m, t⟩ b).1.f (dErase ⟨m, t⟩ b).1.t) (post := []) _ _ rfl (by rfl) (by rfl) (by rfl) rd_size P5.out.b (List.append_nil _).symm rdZero_len (rd_len _ _ _) (rd_one _ _ _) ?_); intro w6 A6 T6; have P6 := Lib.hid (P5.out.stb (ds' := rdCells r5 (dErase ⟨m, t⟩ b).1.f (dErase ⟨m, t⟩ b).1.t) (by simpa using A6) T6); have C6 := Lib.hid (C5.out.otherT P5.out.b (by decide) (by decide) T6); clear A6 T6))
    exact bodyPost_ret (rd_res2 Try.results16 _ rfl rfl P6.out.b (rd_len _ _ _)) rfl (drvOut_mk rfl C6.out P6.out.below N5.out)
  · rw [if_neg hr] at cl
    have E : Hid (dErase ⟨m, t⟩ b = (⟨m, t⟩, fRefuse m (b * 64))) := Lib.hid (if_neg hr)
    have hx1 : (fRefuse m (b * 64) != 0) = true := by simpa using hr
    obtain ⟨n, hn⟩ : ∃ n, n = fRefuse m (b * 64) := ⟨_, rfl⟩
    rw [← hn] at cl E hx1
    have CL := Lib.hid cl
    clear cl hr hn
    go_enter Try.func16, Try.ntmps16
    go_upto_region 1 with fail
    change Code.wp _ _ _ _ ((w.alloc (.cells (rdCells r m t).toArray 41)).alloc (.cells rdZero.toArray 41))
    rw [← HV.out]
    go_wp2_with (first
      | ((refine wpList_ldh (ty := 41) (xs := rdCells r m t) (post := []) _ rfl (by rfl) (by rfl) Try.underlying41 rfl rd_size P0.out.a (List.append_nil _).symm (rd_len _ _ _) ?_))
      | (go_at_call 44; (refine (CL.out _ _ (reads_two V 32#32 208#32)).mono ?_); rintro e w3 ⟨rfl, hb⟩; simp only [rdVal]; have P3 := Lib.hid ((P0.out.alloc (.cells #[.int .u32 (U 32#32), .int .u32 (U 208#32)] 33)).call hb); have C3 := Lib.hid ((C0.out.below ((Below.refl _ V).alloc (Nat.le_refl _) (.cells #[.int .u32 (U 32#32), .int .u32 (U 208#32)] 33))).below hb); clear hb)
      | ((refine wpList_sth (ty := 41) (xs := rdZero) (ys := rdCells r m t) (post := []) _ _ rfl (by rfl) (by rfl) (by rfl) rd_size (At.news w3 _ rdZero) (List.append_nil _).symm rdZero_len (rd_len _ _ _) (rd_one _ _ _) ?_); intro w4 A4 T4; have A4' : Hid (At w4 w3.heap.size 41 (rdCells r m t)) := Lib.hid (by simpa using A4); have P4 := Lib.hid ((P3.out.alloc _).far P3.out.size T4); have C4 := Lib.hid ((C3.out.below ((Below.refl _ w3).alloc (Nat.le_refl _) (.cells rdZero.toArray 41))).otherT (At.news w3 _ rdZero) (by decide) (by decide) T4); clear A4 T4)
      | ((refine wpList_ldh (ty := 41) (xs := rdCells r m t) (post := []) _ rfl (by rfl) (by rfl) Try.underlying41 rfl rd_size A4'.out (List.append_nil _).symm (rd_len _ _ _) ?_))
      | ((refine wpList_sth (ty := 41) (xs := rdZero) (ys := rdCells r m t) (post := []) _ _ rfl (by rfl) (by rfl) (by rfl) rd_size P4.out.b (List.append_nil _).symm rdZero_len (rd_len _ _ _) (rd_one _ _ _) ?_); intro w6 A6 T6; have P6 := Lib.hid (P4.out.stb (ds' := rdCells r m t) (by simpa using A6) T6); have C6 := Lib.hid (C4.out.otherT P4.out.b (by decide) (by decide) T6); clear A6 T6))
    exact bodyPost_ret (rd_res2 Try.results16 _ rfl rfl P6.out.b (rd_len _ _ _)) rfl (drvOut_mk E.out C6.out P6.out.below (RefNew.refl _ _))
end Go.Proofs.Ytfckgfimmoinmaa

namespace Go.Proofs.Ytfckgfimmoinmaa
open Go.RowKit Bm

set_option maxRecDepth 100000 in
set_option maxHeartbeats 4000000 in
theorem rlock5_any (r : Rh) (m : FlashM) (t : Int) (k : Nat) (b : Int) (on : Bool) (w : World) (h : DrvOk k ⟨m, t⟩) (hc : RefAt w r m.chip) (b0 : -1125899906842624 ≤ b) (b1 : b ≤ 1125899906842624) (_t0 : 0 ≤ t) (_t1 : t ≤ 100000000000000) :
    Calls Try.prog 21 #[rdVal r m t, .int .i64 b, .bool on] w (DrvOut r (dLock ⟨m, t⟩ b on) w) := by
  have hz := rf_zero
  have hz2 := rd_zero
  obtain ⟨V, hV⟩ : ∃ V, V = (w.alloc (.cells (rdCells r m t).toArray 41)).alloc (.cells rdZero.toArray 41) := ⟨_, rfl⟩
  have P0 : Hid (Pair 41 w (rdCells r m t) rdZero V) := Lib.hid (by rw [hV]; exact Pair.start 41 w (rdCells r m t) rdZero)
  have C0 : Hid (RefAt V r m.chip) := Lib.hid (by rw [hV]; exact hc.below (below_two w _ _))
  have HV := Lib.hid hV
  clear hV
  have wr0 : IntKind.i64.wrap (b * 64) = b * 64 := by rw [IntKind.wrap_i64]; omega
  have ew := lock_writes h.calm b on
  have cl := fun W g (hr : ReadsU W (some ⟨g, 0, none⟩) 2 2 [96#32, if on then 1#32 else 208#32]) => rwrites_any r m t k (b * 64) (some ⟨g, 0, none⟩) 2 2 [96#32, if on then 1#32 else 208#32] W h.ok hr (by omega)
  rw [ew] at cl
  clear ew hc
  change Calls _ _ #[.agg (rdCells r m t).toArray, _, _] _ _
  by_cases hr : fRefuse m (b * 64) = 0
  · rw [if_pos hr] at cl
    have E : Hid (dLock ⟨m, t⟩ b on = (⟨{ m with mode := 1, locks := m.locks.set b.toNat on }, t⟩, 0)) := Lib.hid (if_pos hr)
    have wk := (lock_calm h b on)
    rw [E.out] at wk
    have wu : ({ m with mode := 1, locks := m.locks.set b.toNat on } : FlashM).chip.up = true := (fRefuse_zero hr).1
    have wc : ({ m with mode := 1, locks := m.locks.set b.toNat on } : FlashM).chip = m.chip := rfl
    obtain ⟨m1, hm1⟩ : ∃ m1, m1 = ({ m with mode := 1, locks := m.locks.set b.toNat on } : FlashM) := ⟨_, rfl⟩
    rw [← hm1] at cl E wk wu wc
    have WA := Lib.hid (fun W => rcheck_any r m1 t k W wk.ok wk.calm.job wk.calm.wait wu (.inl wk.calm.errors))
    have EC := Lib.hid (check_none wk.calm.errors)
    have WC := Lib.hid wc
    clear wk wu wc hr hm1
    cases on
    · simp only [if_true, if_false, Bool.false_eq_true, reduceIte] at cl
      have CL := Lib.hid cl
      clear cl
      go_enter Try.func21, Try.ntmps21
      go_upto_region 4 with fail
      change Code.wp _ _ _ _ ((w.alloc (.cells (rdCells r m t).toArray 41)).alloc (.cells rdZero.toArray 41))
      rw [← HV.out]
      go_wp2_with (first
        | ((refine wpList_ldh (ty := 41) (xs := rdCells r m t) (post := []) _ rfl (by rfl) (by rfl) Try.underlying41 rfl rd_size P0.out.a (List.append_nil _).symm (rd_len _ _ _) ?_))
        | (go_at_call 44; (refine (CL.out _ _ (reads_two V 96#32 _)).mono ?_); rintro e w3 ⟨rfl, hb⟩; simp only [rdVal]; have P3 := Lib.hid ((P0.out.alloc (.cells #[.int .u32 (U 96#32), .int .u32 (U 208#32)] 33)).call hb); have C3 := Lib.hid ((C0.out.below ((Below.refl _ V).alloc (Nat.le_refl _) (.cells #[.int .u32 (U 96#32), .int .u32 (U 208#32)] 33))).below hb); clear hb)
        | ((refine wpList_sth (ty := 41) (xs := rdZero) (ys := rdCells r m1 t) (post := []) _ _ rfl (by rfl) (by rfl) (by rfl) rd_size (At.news w3 _ rdZero) (List.append_nil _).symm rdZero_len (rd_len _ _ _) (rd_one _ _ _) ?_); intro w4 A4 T4; have A4' : Hid (At w4 w3.heap.size 41 (rdCells r m1 t)) := Lib.hid (by simpa using A4); have P4 := Lib.hid ((P3.out.alloc _).far P3.out.size T4); have C4 := Lib.hid ((C3.out.below ((Below.refl _ w3).alloc (Nat.le_refl _) (.cells rdZero.toArray 41))).otherT (At.news w3 _ rdZero) (by decide) (by decide) T4); clear A4 T4)
        | ((refine wpList_ldh (ty := 41) (xs := rdCells r m1 t) (post := []) _ rfl (by rfl) (by rfl) Try.underlying41 rfl rd_size A4'.out (List.append_nil _).symm (rd_len _ _ _) ?_))
        | (go_at_call 48; (refine (WA.out _).mono ?_); rw [EC.out]; rintro e w5 ⟨rfl, hb⟩; simp only [rdVal]; have P5 := Lib.hid (P4.out.call hb); have C5 := Lib.hid (C4.out.below hb); clear hb)
        | ((refine wpList_sth (ty := 41) (xs := rdZero) (ys := rdCells r m1 t) (post := []) _ _ rfl (by rfl) (by rfl) (by rfl) rd_size P5.out.b (List.append_nil _).symm rdZero_len (rd_len _ _ _) (rd_one _ _ _) ?_); intro w6 A6 T6; have P6 := Lib.hid (P5.out.stb (ds' := rdCells r m1 t) (by simpa using A6) T6); have C6 := Lib.hid (C5.out.otherT P5.out.b (by decide) (by decide) T6); clear A6 T6))
      exact bodyPost_ret (rd_res2 Try.results21 _ rfl rfl P6.out.b (rd_len _ _ _)) rfl (drvOut_mk E.out (by rw [WC.out]; exact C6.out) P6.out.below (RefNew.refl _ _))
    · simp only [if_true, if_false, Bool.false_eq_true, reduceIte] at cl
      have CL := Lib.hid cl
      clear cl
      go_enter Try.func21, Try.ntmps21
      go_upto_region 4 with fail
      change Code.wp _ _ _ _ ((w.alloc (.cells (rdCells r m t).toArray 41)).alloc (.cells rdZero.toArray 41))
      rw [← HV.out]
      go_wp2_with (first
        | ((refine wpList_ldh (ty := 41) (xs := rdCells r m t) (post := []) _ rfl (by rfl) (by rfl) Try.underlying41 rfl rd_size P0.out.a (List.append_nil _).symm (rd_len _ _ _) ?_))
        | (go_at_call 44; (refine (CL.out _ _ (reads_two V 96#32 _)).mono ?_); rintro e w3 ⟨rfl, hb⟩; simp only [rdVal]; have P3 := Lib.hid ((P0.out.alloc (.cells #[.int .u32 (U 96#32), .int .u32 (U 1#32)] 33)).call hb); have C3 := Lib.hid ((C0.out.below ((Below.refl _ V).alloc (Nat.le_refl _) (.cells #[.int .u32 (U 96#32), .int .u32 (U 1#32)] 33))).below hb); clear hb)
        | ((refine wpList_sth (ty := 41) (xs := rdZero) (ys := rdCells r m1 t) (post := []) _ _ rfl (by rfl) (by rfl) (by rfl) rd_size (At.news w3 _ rdZero) (List.append_nil _).symm rdZero_len (rd_len _ _ _) (rd_one _ _ _) ?_); intro w4 A4 T4; have A4' : Hid (At w4 w3.heap.size 41 (rdCells r m1 t)) := Lib.hid (by simpa using A4); have P4 := Lib.hid ((P3.out.alloc _).far P3.out.size T4); have C4 := Lib.hid ((C3.out.below ((Below.refl _ w3).alloc (Nat.le_refl _) (.cells rdZero.toArray 41))).otherT (At.news w3 _ rdZero) (by decide) (by decide) T4); clear A4 T4)
        | ((refine wpList_ldh (ty := 41) (xs := rdCells r m1 t) (post := []) _ rfl (by rfl) (by rfl) Try.underlying41 rfl rd_size A4'.out (List.append_nil _).symm (rd_len _ _ _) ?_))
        | (go_at_call 48; (refine (WA.out _).mono ?_); rw [EC.out]; rintro e w5 ⟨rfl, hb⟩; simp only [rdVal]; have P5 := Lib.hid (P4.out.call hb); have C5 := Lib.hid (C4.out.below hb); clear hb)
        | ((refine wpList_sth (ty := 41) (xs := rdZero) (ys := rdCells r m1 t) (post := []) _ _ rfl (by rfl) (by rfl) (by rfl) rd_size P5.out.b (List.append_nil _).symm rdZero_len (rd_len _ _ _) (rd_one _ _ _) ?_); intro w6 A6 T6; have P6 := Lib.hid (P5.out.stb (ds' := rdCells r m1 t) (by simpa using A6) T6); have C6 := Lib.hid (C5.out.otherT P5.out.b (by decide) (by decide) T6); clear A6 T6))
      exact bodyPost_ret (rd_res2 Try.results21 _ rfl rfl P6.out.b (rd_len _ _ _)) rfl (drvOut_mk E.out (by rw [WC.out]; exact C6.out) P6.out.below (RefNew.refl _ _))
  · rw [if_neg hr] at cl
    have E : Hid (dLock ⟨m, t⟩ b on = (⟨m, t⟩, fRefuse m (b * 64))) := Lib.hid (if_neg hr)
    have hx1 : (fRefuse m (b * 64) != 0) = true := by simpa using hr
    obtain ⟨n, hn⟩ : ∃ n, n = fRefuse m (b * 64) := ⟨_, rfl⟩
    rw [← hn] at cl E hx1
    clear hr hn
    cases on
    · simp only [if_true, if_false, Bool.false_eq_true, reduceIte] at cl
      have CL := Lib.hid cl
      clear cl
      go_enter Try.func21, Try.ntmps21
      go_upto_region 4 with fail
      change Code.wp _ _ _ _ ((w.alloc (.cells (rdCells r m t).toArray 41)).alloc (.cells rdZero.toArray 41))
      rw [← HV.out]
      go_wp2_with (first
        | ((refine wpList_ldh (ty := 41) (xs := rdCells r m t) (post := []) _ rfl (by rfl) (by rfl) Try.underlying41 rfl rd_size P0.out.a (List.append_nil _).symm (rd_len _ _ _) ?_))
        | (go_at_call 44; (refine (CL.out _ _ (reads_two V 96#32 _)).mono ?_); rintro e w3 ⟨rfl, hb⟩; simp only [rdVal]; have P3 := Lib.hid ((P0.out.alloc (.cells #[.int .u32 (U 96#32), .int .u32 (U 208#32)] 33)).call hb); have C3 := Lib.hid ((C0.out.below ((Below.refl _ V).alloc (Nat.le_refl _) (.cells #[.int .u32 (U 96#32), .int .u32 (U 208#32)] 33))).below hb); clear hb)
        | ((refine wpList_sth (ty := 41) (xs := rdZero) (ys := rdCells r m t) (post := []) _ _ rfl (by rfl) (by rfl) (by rfl) rd_size (At.news w3 _ rdZero) (List.append_nil _).symm rdZero_len (rd_len _ _ _) (rd_one _ _ _) ?_); intro w4 A4 T4; have A4' : Hid (At w4 w3.heap.size 41 (rdCells r m t)) := Lib.hid (by simpa using A4); have P4 := Lib.hid ((P3.out.alloc _).far P3.out.size T4); have C4 := Lib.hid ((C3.out.below ((Below.refl _ w3).alloc (Nat.le_refl _) (.cells rdZero.toArray 41))).otherT (At.news w3 _ rdZero) (by decide) (by decide) T4); clear A4 T4)
        | ((refine wpList_ldh (ty := 41) (xs := rdCells r m t) (post := []) _ rfl (by rfl) (by rfl) Try.underlying41 rfl rd_size A4'.out (List.append_nil _).symm (rd_len _ _ _) ?_))
        | ((refine wpList_sth (ty := 41) (xs := rdZero) (ys := rdCells r m t) (post := []) _ _ rfl (by rfl) (by rfl) (by rfl) rd_size P4.out.b (List.append_nil _).symm rdZero_len (rd_len _ _ _) (rd_one _ _ _) ?_); intro w6 A6 T6; have P6 := Lib.hid (P4.out.stb (ds' := rdCells r m t) (by simpa using A6) T6); have C6 := Lib.hid (C4.out.otherT P4.out.b (by decide) (by decide) T6); clear A6 T6))
      exact bodyPost_ret (rd_res2 Try.results21 _ rfl rfl P6.out.b (rd_len _ _ _)) rfl (drvOut_mk E.out C6.out P6.out.below (RefNew.refl _ _))
    · simp only [if_true, if_false, Bool.false_eq_true, reduceIte] at cl
      have CL := Lib.hid cl
      clear cl
      go_enter Try.func21, Try.ntmps21
      go_upto_region 4 with fail
      change Code.wp _ _ _ _ ((w.alloc (.cells (rdCells r m t).toArray 41)).alloc (.cells rdZero.toArray 41))
      rw [← HV.out]
      go_wp2_with (first
        | ((refine wpList_ldh (ty := 41) (xs := rdCells r m t) (post := []) _ rfl (by rfl) (by rfl) Try.underlying41 rfl rd_size P0.out.a (List.append_nil _).symm (rd_len _ _ _) ?_))
        | (go_at_call 44; (refine (CL.out _ _ (reads_two V 96#32 _)).mono ?_); rintro e w3 ⟨rfl, hb⟩; simp only [rdVal]; have P3 := Lib.hid ((P0.out.alloc (.cells #[.int .u32 (U 96#32), .int .u32 (U 1#32)] 33)).call hb); have C3 := Lib.hid ((C0.out.below ((Below.refl _ V).alloc (Nat.le_refl _) (.cells #[.int .u32 (U 96#32), .int .u32 (U 1#32)] 33))).below hb); clear hb)
        | ((refine wpList_sth (ty := 41) (xs := rdZero) (ys := rdCells r m t) (post := []) _ _ rfl (by rfl) (by rfl) (by rfl) rd_size (At.news w3 _ rdZero) (List.append_nil _).symm rdZero_len (rd_len _ _ _) (rd_one _ _ _) ?_); intro w4 A4 T4; have A4' : Hid (At w4 w3.heap.size 41 (rdCells r m t)) := Lib.hid (by simpa using A4); have P4 := Lib.hid ((P3.out.alloc _).far P3.out.size T4); have C4 := Lib.hid ((C3.out.below ((Below.refl _ w3).alloc (Nat.le_refl _) (.cells rdZero.toArray 41))).otherT (At.news w3 _ rdZero) (by decide) (by decide) T4); clear A4 T4)
        | ((refine wpList_ldh (ty := 41) (xs := rdCells r m t) (post := []) _ rfl (by rfl) (by rfl) Try.underlying41 rfl rd_size A4'.out (List.append_nil _).symm (rd_len _ _ _) ?_))
        | ((refine wpList_sth (ty := 41) (xs := rdZero) (ys := rdCells r m t) (post := []) _ _ rfl (by rfl) (by rfl) (by rfl) rd_size P4.out.b (List.append_nil _).symm rdZero_len (rd_len _ _ _) (rd_one _ _ _) ?_); intro w6 A6 T6; have P6 := Lib.hid (P4.out.stb (ds' := rdCells r m t) (by simpa using A6) T6); have C6 := Lib.hid (C4.out.otherT P4.out.b (by decide) (by decide) T6); clear A6 T6))
      exact bodyPost_ret (rd_res2 Try.results21 _ rfl rfl P6.out.b (rd_len _ _ _)) rfl (drvOut_mk E.out C6.out P6.out.below (RefNew.refl _ _))
end Go.Proofs.Ytfckgfimmoinmaa
