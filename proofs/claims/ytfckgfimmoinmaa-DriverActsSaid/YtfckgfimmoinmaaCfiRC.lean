/- The contract of the document's flash: Tick. | The contract of the document's flash: Tick, where the job is done. | The document's Tick, whatever there is; and how a walk loads the document's flash whole in a region that draws its order. -/
import Derived.Test.YtfckgfimmoinmaaCfiTwo
import Derived.Test.YtfckgfimmoinmaaCfiFacts2
import Derived.Deep.DeepCutAuto
namespace Go.Proofs.Ytfckgfimmoinmaa
open Go.RowKit Bm

/-- The document's flash behind a call that may have new words, and a number. -/
def TickOut (r : Rh) (x : FlashM × Int) (w : World) (e : Ending) (w' : World) : Prop :=
  ∃ r', e = .returned (.tuple #[rfVal r' x.1, .int .i64 x.2]) ∧ RefAt w' r' x.1.chip ∧ Below w.heap.size w w' ∧ RefNew w r r'
theorem tick_mk {r : Rh} {m : FlashM} {n : Int} {x : FlashM × Int} {w w' : World} (e : x = (m, n)) (hc : RefAt w r m.chip) (hb : Below w.heap.size w w') : TickOut r x w (.returned (.tuple #[.agg (rfCells r m).toArray, .int .i64 n])) w' := by
  subst e
  exact ⟨r, rfl, hc.below hb, hb, RefNew.refl _ _⟩

theorem set_chip (r r1 : Rh) (m : FlashM) (c1 : ChipM) :
    ((((((rfCells r m).set 0 (.slice (some ⟨r1.gw, 0, none⟩) c1.ws.length r1.cw)).set 1 (.slice (some ⟨r1.ge, 0, none⟩) c1.wear.length r1.ce)).set 2 (.int .i64 c1.endure)).set 3 (.int .i64 c1.left)).set 4 (.int .u32 (U c1.pick))).set 5 (.bool (!c1.up)) = rfCells r1 { m with chip := c1 } := by
  unfold rfCells rfHead refCells
  rfl

abbrev sixAt (w : World) (b : Nat) (r1 : Rh) (c1 : ChipM) : World :=
  (((((w.setCell ⟨b, 0, none⟩ (.slice (some ⟨r1.gw, 0, none⟩) c1.ws.length r1.cw)).setCell ⟨b, 1, none⟩ (.slice (some ⟨r1.ge, 0, none⟩) c1.wear.length r1.ce)).setCell ⟨b, 2, none⟩ (.int .i64 c1.endure)).setCell ⟨b, 3, none⟩ (.int .i64 c1.left)).setCell ⟨b, 4, none⟩ (.int .u32 (U c1.pick))).setCell ⟨b, 5, none⟩ (.bool (!c1.up))
abbrev idleAt (w : World) (b : Nat) (r1 : Rh) (c1 : ChipM) : World :=
  ((((sixAt w b r1 c1).setCell ⟨b, 73, none⟩ (.int .i64 0)).setCell ⟨b, 74, none⟩ (.int .i64 0)).setCell ⟨b, 75, none⟩ (.int .u32 0)).setCell ⟨b, 76, none⟩ (.int .i64 0)
theorem Two.idle {w w1 : World} {ds : List Value} {r : Rh} {m : FlashM} (h : Two w (rfCells r m) ds w1) (r1 : Rh) (c1 : ChipM) : Two w (rfCells r1 (fIdle m c1)) ds (idleAt w1 w.heap.size r1 c1) := by
  have h6 := (((((h.put 0 (.slice (some ⟨r1.gw, 0, none⟩) c1.ws.length r1.cw) rfl).put 1 (.slice (some ⟨r1.ge, 0, none⟩) c1.wear.length r1.ce) rfl).put 2 (.int .i64 c1.endure) rfl).put 3 (.int .i64 c1.left) rfl).put 4 (.int .u32 (U c1.pick)) rfl).put 5 (.bool (!c1.up)) (set_chip r r1 m c1)
  exact (((h6.put 73 (.int .i64 0) (rfs73 _ _ _)).put 74 (.int .i64 0) (rfs740 _ _)).put 75 (.int .u32 0) (rfs750 _ _)).put 76 (.int .i64 0) (rfs76 _ _ _)
theorem idleAt_turned (w : World) (b : Nat) (r1 : Rh) (c1 : ChipM) : Turned (Just b) w (idleAt w b r1 c1) :=
  ((((((((((Turned.refl (Just b) w).setCell (p := ⟨b, 0, none⟩) (fun _ => rfl) _).setCell (p := ⟨b, 1, none⟩) (fun _ => rfl) _).setCell (p := ⟨b, 2, none⟩) (fun _ => rfl) _).setCell (p := ⟨b, 3, none⟩) (fun _ => rfl) _).setCell (p := ⟨b, 4, none⟩) (fun _ => rfl) _).setCell (p := ⟨b, 5, none⟩) (fun _ => rfl) _).setCell (p := ⟨b, 73, none⟩) (fun _ => rfl) _).setCell (p := ⟨b, 74, none⟩) (fun _ => rfl) _).setCell (p := ⟨b, 75, none⟩) (fun _ => rfl) _).setCell (p := ⟨b, 76, none⟩) (fun _ => rfl) _

theorem RefAt.other {w w' : World} {r : Rh} {c : ChipM} (h : RefAt w r c) {b : Nat} {cs : List Value} (hA : At w b 39 cs) (t : Turned (Just b) w w') : RefAt w' r c :=
  h.kept t (fun e => h.words.ne hA (by decide) e) (fun e => h.wear.ne hA (by decide) e)

set_option maxRecDepth 100000 in
set_option maxHeartbeats 8000000 in
theorem rtick_early (r : Rh) (m : FlashM) (k : Nat) (n : Int) (w : World) (ok : FlashOk k m) (hc : RefAt w r m.chip) (b0 : -9223372036854775808 ≤ n) (b1 : n ≤ 9223372036854775807)
    (h : m.chip.up = false ∨ n < 0 ∨ m.job = 0 ∨ n < m.left) :
    Calls Try.prog 60 #[rfVal r m, .int .i64 n] w (TickOut r (fTick m n) w) := by
  have hz := rf_zero
  have HN := Lib.hid (rf_len r m)
  have T0 := Lib.hid (Two.start w (rfCells r m))
  have HC := Lib.hid hc
  have kw := ok.chip.words
  have k1 := ok.chip.k1
  have hlen : 0 < m.chip.ws.length := by omega
  clear kw k1 hc
  cases hu : m.chip.up
  · have E : Hid (fTick m n = (m, 4)) := Lib.hid (by
      have : fRefuse m 0 = 4 := by unfold fRefuse mRefuse; rw [if_pos hu]
      unfold fTick
      rw [if_pos (by rw [this]; decide), this])
    clear h ok hlen
    change Calls _ _ #[.agg (rfCells r m).toArray, _] _ _
    go_enter Try.func60, Try.ntmps60
    go_wp2_with (first
      | (with_reducible refine wpList_ld (.tmp 2) rfl rfl rfl T0.out.a HN.out ?_)
      | ((with_reducible refine wpList_st (.tmp 4) (.tmp 11) rfl rfl rfl rfl T0.out.b rf_zero_len HN.out (rf_one _ _) ?_); intro w4 A4 T4; have A4' := Lib.hid A4; have T4' := Lib.hid T4; clear A4 T4))
    exact bodyPost_ret (rf_res2 Try.results60 _ rfl rfl A4'.out HN.out) rfl (tick_mk E.out HC.out (T0.out.done T4'.out))
  rw [hu] at h
  have hu' : m.chip.up = true := hu
  by_cases h1 : n < 0
  · have E : Hid (fTick m n = (m, 2)) := Lib.hid (by unfold fTick; rw [if_neg (by rw [fRefuse_on hu' 0 (by omega) (by omega)]; decide), if_pos h1])
    clear h ok hlen
    change Calls _ _ #[.agg (rfCells r m).toArray, _] _ _
    go_enter Try.func60, Try.ntmps60
    go_wp2_with (first
      | (with_reducible refine wpList_ld (.tmp 2) rfl rfl rfl T0.out.a HN.out ?_)
      | ((with_reducible refine wpList_st (.tmp 4) (.tmp 14) rfl rfl rfl rfl T0.out.b rf_zero_len HN.out (rf_one _ _) ?_); intro w4 A4 T4; have A4' := Lib.hid A4; have T4' := Lib.hid T4; clear A4 T4))
    exact bodyPost_ret (rf_res2 Try.results60 _ rfl rfl A4'.out HN.out) rfl (tick_mk E.out HC.out (T0.out.done T4'.out))
  have n0 : 0 ≤ n := by omega
  by_cases j : m.job = 0
  · have E := Lib.hid (fTick_idle hu' hlen n n0 j)
    clear h ok hlen
    change Calls _ _ #[.agg (rfCells r m).toArray, _] _ _
    go_enter Try.func60, Try.ntmps60
    go_wp2_with (first
      | (with_reducible refine wpList_ld (.tmp 2) rfl rfl rfl T0.out.a HN.out ?_)
      | ((with_reducible refine wpList_st (.tmp 4) (.tmp 18) rfl rfl rfl rfl T0.out.b rf_zero_len HN.out (rf_one _ _) ?_); intro w4 A4 T4; have A4' := Lib.hid A4; have T4' := Lib.hid T4; clear A4 T4))
    exact bodyPost_ret (rf_res2 Try.results60 _ rfl rfl A4'.out HN.out) rfl (tick_mk E.out HC.out (T0.out.done T4'.out))
  have hl : n < m.left := by
    rcases h with h | h | h | h
    · cases h
    · omega
    · exact absurd h j
    · exact h
  have q1 : (m.job == 0) = false := by rw [beq_eq_false_iff_ne]; exact j
  have l1 := (ok.busy j).2.2.1
  have l2 := (ok.busy j).2.2.2
  have E := Lib.hid (fTick_wait hu' hlen n n0 j hl)
  have HN2 := Lib.hid (rf_len r { m with left := m.left - n })
  have HC2 : Hid (RefAt w r ({ m with left := m.left - n } : FlashM).chip) := Lib.hid HC.out
  clear h ok hlen j
  change Calls _ _ #[.agg (rfCells r m).toArray, _] _ _
  go_enter Try.func60, Try.ntmps60
  go_wp2_with (first
    | (with_reducible refine wpList_ld (.tmp 2) rfl rfl rfl (two_a w (rfCells r { m with left := m.left - n })) HN2.out ?_)
    | ((with_reducible refine wpList_st (.tmp 4) (.tmp 28) rfl rfl rfl rfl (two_b w (rfCells r { m with left := m.left - n })) rf_zero_len HN2.out (rf_one _ _) ?_); intro w4 A4 T4; have A4' := Lib.hid A4; have T4' := Lib.hid T4; clear A4 T4))
  exact bodyPost_ret (rf_res2 Try.results60 _ rfl rfl A4'.out HN2.out) rfl (tick_mk E.out HC2.out (two_done0 (cs := rfCells r { m with left := m.left - n }) T4'.out))
end Go.Proofs.Ytfckgfimmoinmaa

namespace Go.Proofs.Ytfckgfimmoinmaa
open Go.RowKit Bm

theorem RefNew.from {w w0 : World} {r r1 : Rh} (hs : w.heap.size ≤ w0.heap.size) (h : RefNew w0 r r1) : RefNew w r r1 := (RefNew.refl w r).trans hs h
theorem tick_done {w w5 : World} {r r1 : Rh} {m' : FlashM} {n : Int} {x : FlashM × Int} (e : x = (m', n)) (hc : RefAt w5 r1 m'.chip) (hb : Below w.heap.size w w5) (hn : RefNew w r r1) : TickOut r x w (.returned (.tuple #[.agg (rfCells r1 m').toArray, .int .i64 n])) w5 := by
  subst e
  exact ⟨r1, rfl, hc, hb, hn⟩
theorem done_five {m : FlashM} {c : ChipM} (h : fJob m = (c, 5)) : fDone m = (fWith (fIdle m c) 32#32, 0) := by
  unfold fDone
  rw [h]
  exact if_pos rfl
theorem done_other {m : FlashM} {c : ChipM} {n : Int} (h : fJob m = (c, n)) (hn : n ≠ 5) : fDone m = (fIdle m c, n) := by
  unfold fDone
  rw [h]
  exact if_neg hn

set_option maxRecDepth 100000 in
set_option maxHeartbeats 8000000 in
theorem rtick_32 (r : Rh) (m : FlashM) (k : Nat) (n : Int) (w : World) (ok : FlashOk k m) (hc : RefAt w r m.chip) (hu : m.chip.up = true) (n0 : 0 ≤ n) (hj : m.job = 32) (hl : m.left ≤ n) :
    Calls Try.prog 60 #[rfVal r m, .int .i64 n] w (TickOut r (fTick m n) w) := by
  have hz := rf_zero
  have T0 := Lib.hid (Two.start w (rfCells r m))
  have hc0 : RefAt (W2 w (rfCells r m)) r m.chip := hc.below (two_below w _)
  have he := rerase_any r m.chip k m.at_ (W2 w (rfCells r m)) hc0 ok.chip
  have kw := ok.chip.words
  have k1 := ok.chip.k1
  have n1 : ¬ n < 0 := by omega
  have n2 : ¬ n < m.left := by omega
  have E0 : fTick m n = fDone m := fTick_done hu (by omega) n n0 (by rw [hj]; decide) hl
  rw [E0]
  have HS0 := Lib.hid (two_size w (rfCells r m))
  have hX : fJob m = mErase m.chip m.at_ := fJob_erase hj
  obtain ⟨c1, x1, hx⟩ : ∃ c x, mErase m.chip m.at_ = (c, x) := ⟨_, _, rfl⟩
  rw [hx] at he hX
  simp only [refVal, hu, Bool.not_true] at he
  have HE := Lib.hid he
  clear he hx hc0 kw k1 E0 hc
  by_cases h5 : x1 = 5
  · subst h5
    have E := Lib.hid (done_five hX)
    clear hX ok hl n0
    change Calls _ _ #[.agg (rfCells r m).toArray, _] _ _
    go_enter Try.func60, Try.ntmps60
    go_upto_region 11 with (go_at_call 71; (with_reducible refine HE.out.mono ?_); rintro e w1 ⟨r1, rfl, hc1, hb1, hn1⟩; simp only [refVal]; have T1 := Lib.hid (T0.out.call hb1); have HC1 := Lib.hid hc1; have HB1 := Lib.hid hb1; have HN1 := Lib.hid hn1; clear hc1 hb1 hn1)
    obtain ⟨V, hV⟩ : ∃ V, V = w1.alloc (.cells ([.slice (some ⟨r1.gw, 0, none⟩) c1.ws.length r1.cw, .slice (some ⟨r1.ge, 0, none⟩) c1.wear.length r1.ce, .int .i64 c1.endure, .int .i64 c1.left, .int .u32 (U c1.pick), .bool (!c1.up)]).toArray 35) := ⟨_, rfl⟩
    have ba : Below w1.heap.size w1 V := by rw [hV]; exact (Below.refl _ w1).alloc (Nat.le_refl _) _
    have hP : At V w1.heap.size 35 [.slice (some ⟨r1.gw, 0, none⟩) c1.ws.length r1.cw, .slice (some ⟨r1.ge, 0, none⟩) c1.wear.length r1.ce, .int .i64 c1.endure, .int .i64 c1.left, .int .u32 (U c1.pick), .bool (!c1.up)] := by rw [hV]; exact At.alloc_new _ _ _ rfl rfl
    have TB := Lib.hid (T1.out.call ba)
    have HCV := Lib.hid (HC1.out.below ba)
    change Code.wp _ _ _ _ (w1.alloc (.cells ([.slice (some ⟨r1.gw, 0, none⟩) c1.ws.length r1.cw, .slice (some ⟨r1.ge, 0, none⟩) c1.wear.length r1.ce, .int .i64 c1.endure, .int .i64 c1.left, .int .u32 (U c1.pick), .bool (!c1.up)]).toArray 35))
    rw [← hV]
    have HRN : Hid (RefNew w r r1) := Lib.hid (RefNew.from (by rw [HS0.out]; omega) HN1.out)
    have HBA := Lib.hid ba
    have HP := Lib.hid hP
    have g0 := TB.out.a.cell 0
    have g1 := TB.out.a.cell 1
    have g2 := TB.out.a.cell 2
    have g3 := TB.out.a.cell 3
    have g4 := TB.out.a.cell 4
    have g5 := TB.out.a.cell 5
    have g73 := TB.out.a.cell 73
    have g74 := TB.out.a.cell 74
    have g75 := TB.out.a.cell 75
    have g76 := TB.out.a.cell 76
    simp only [rfg0, rfg1, rfg2, rfg3, rfg4, rfg5, rfg73, rfg74, rfg75, rfg76] at g0 g1 g2 g3 g4 g5 g73 g74 g75 g76
    have f0 := TB.out.a.frozen 0
    have f1 := TB.out.a.frozen 1
    have f2 := TB.out.a.frozen 2
    have f3 := TB.out.a.frozen 3
    have f4 := TB.out.a.frozen 4
    have f5 := TB.out.a.frozen 5
    have f73 := TB.out.a.frozen 73
    have f74 := TB.out.a.frozen 74
    have f75 := TB.out.a.frozen 75
    have f76 := TB.out.a.frozen 76
    obtain ⟨y0, y1, y2, y3, y4, y5⟩ := hP.all6
    clear hV ba hP
    have TI := Lib.hid (TB.out.idle r1 c1)
    have HCI : Hid (RefAt (idleAt V w.heap.size r1 c1) r1 c1) := Lib.hid (HCV.out.other TB.out.a (idleAt_turned _ _ _ _))
    have HN3 := Lib.hid (rf_len r1 (fIdle m c1))
    have HN4 := Lib.hid (rf_len r1 (fWith (fIdle m c1) 32#32))
    have HW5 := Lib.hid (fun V => rwith_any r1 (fIdle m c1) 32#32 V)
    go_wp2_with (first
      | (with_reducible refine wpList_ld (.tmp 2) rfl rfl rfl TI.out.a HN3.out ?_)
      | (go_at_call 70; (refine (HW5.out _).mono ?_); rintro e w5 ⟨rfl, hb5⟩; have TJ := Lib.hid (TI.out.call hb5); have HCJ := Lib.hid (HCI.out.below hb5); clear hb5)
      | ((with_reducible refine wpList_st (.tmp 4) (.tmp 59) rfl rfl rfl rfl TJ.out.b rf_zero_len HN4.out (rf_one _ _) ?_); intro w6 A6 T6; have A6' := Lib.hid A6; have T6' := Lib.hid T6; clear A6 T6))
    exact bodyPost_ret (rf_res2 Try.results60 _ rfl rfl A6'.out HN4.out) rfl (tick_done E.out (HCJ.out.other TJ.out.b T6'.out) (TJ.out.done T6'.out) HRN.out)
  · have E := Lib.hid (done_other hX h5)
    have q5 : (x1 == 5) = false := by rw [beq_eq_false_iff_ne]; exact h5
    clear h5
    clear hX ok hl n0
    change Calls _ _ #[.agg (rfCells r m).toArray, _] _ _
    go_enter Try.func60, Try.ntmps60
    go_upto_region 11 with (go_at_call 71; (with_reducible refine HE.out.mono ?_); rintro e w1 ⟨r1, rfl, hc1, hb1, hn1⟩; simp only [refVal]; have T1 := Lib.hid (T0.out.call hb1); have HC1 := Lib.hid hc1; have HB1 := Lib.hid hb1; have HN1 := Lib.hid hn1; clear hc1 hb1 hn1)
    obtain ⟨V, hV⟩ : ∃ V, V = w1.alloc (.cells ([.slice (some ⟨r1.gw, 0, none⟩) c1.ws.length r1.cw, .slice (some ⟨r1.ge, 0, none⟩) c1.wear.length r1.ce, .int .i64 c1.endure, .int .i64 c1.left, .int .u32 (U c1.pick), .bool (!c1.up)]).toArray 35) := ⟨_, rfl⟩
    have ba : Below w1.heap.size w1 V := by rw [hV]; exact (Below.refl _ w1).alloc (Nat.le_refl _) _
    have hP : At V w1.heap.size 35 [.slice (some ⟨r1.gw, 0, none⟩) c1.ws.length r1.cw, .slice (some ⟨r1.ge, 0, none⟩) c1.wear.length r1.ce, .int .i64 c1.endure, .int .i64 c1.left, .int .u32 (U c1.pick), .bool (!c1.up)] := by rw [hV]; exact At.alloc_new _ _ _ rfl rfl
    have TB := Lib.hid (T1.out.call ba)
    have HCV := Lib.hid (HC1.out.below ba)
    change Code.wp _ _ _ _ (w1.alloc (.cells ([.slice (some ⟨r1.gw, 0, none⟩) c1.ws.length r1.cw, .slice (some ⟨r1.ge, 0, none⟩) c1.wear.length r1.ce, .int .i64 c1.endure, .int .i64 c1.left, .int .u32 (U c1.pick), .bool (!c1.up)]).toArray 35))
    rw [← hV]
    have HRN : Hid (RefNew w r r1) := Lib.hid (RefNew.from (by rw [HS0.out]; omega) HN1.out)
    have HBA := Lib.hid ba
    have HP := Lib.hid hP
    have g0 := TB.out.a.cell 0
    have g1 := TB.out.a.cell 1
    have g2 := TB.out.a.cell 2
    have g3 := TB.out.a.cell 3
    have g4 := TB.out.a.cell 4
    have g5 := TB.out.a.cell 5
    have g73 := TB.out.a.cell 73
    have g74 := TB.out.a.cell 74
    have g75 := TB.out.a.cell 75
    have g76 := TB.out.a.cell 76
    simp only [rfg0, rfg1, rfg2, rfg3, rfg4, rfg5, rfg73, rfg74, rfg75, rfg76] at g0 g1 g2 g3 g4 g5 g73 g74 g75 g76
    have f0 := TB.out.a.frozen 0
    have f1 := TB.out.a.frozen 1
    have f2 := TB.out.a.frozen 2
    have f3 := TB.out.a.frozen 3
    have f4 := TB.out.a.frozen 4
    have f5 := TB.out.a.frozen 5
    have f73 := TB.out.a.frozen 73
    have f74 := TB.out.a.frozen 74
    have f75 := TB.out.a.frozen 75
    have f76 := TB.out.a.frozen 76
    obtain ⟨y0, y1, y2, y3, y4, y5⟩ := hP.all6
    clear hV ba hP
    have TI := Lib.hid (TB.out.idle r1 c1)
    have HCI : Hid (RefAt (idleAt V w.heap.size r1 c1) r1 c1) := Lib.hid (HCV.out.other TB.out.a (idleAt_turned _ _ _ _))
    have HN3 := Lib.hid (rf_len r1 (fIdle m c1))
    go_wp2_with (first
      | (with_reducible refine wpList_ld (.tmp 2) rfl rfl rfl TI.out.a HN3.out ?_)
      | ((with_reducible refine wpList_st (.tmp 4) (.tmp 60) rfl rfl rfl rfl TI.out.b rf_zero_len HN3.out (rf_one _ _) ?_); intro w6 A6 T6; have A6' := Lib.hid A6; have T6' := Lib.hid T6; clear A6 T6))
    exact bodyPost_ret (rf_res2 Try.results60 _ rfl rfl A6'.out HN3.out) rfl (tick_done E.out (HCI.out.other TI.out.b T6'.out) (TI.out.done T6'.out) HRN.out)

set_option maxRecDepth 100000 in
set_option maxHeartbeats 8000000 in
theorem rtick_64 (r : Rh) (m : FlashM) (k : Nat) (n : Int) (w : World) (ok : FlashOk k m) (hc : RefAt w r m.chip) (hu : m.chip.up = true) (n0 : 0 ≤ n) (hj : m.job = 64) (hl : m.left ≤ n) :
    Calls Try.prog 60 #[rfVal r m, .int .i64 n] w (TickOut r (fTick m n) w) := by
  have hz := rf_zero
  have T0 := Lib.hid (Two.start w (rfCells r m))
  have hc0 : RefAt (W2 w (rfCells r m)) r m.chip := hc.below (two_below w _)
  have he := rerase_any r m.chip k m.at_ (W2 w (rfCells r m)) hc0 ok.chip
  have kw := ok.chip.words
  have k1 := ok.chip.k1
  have n1 : ¬ n < 0 := by omega
  have n2 : ¬ n < m.left := by omega
  have E0 : fTick m n = fDone m := fTick_done hu (by omega) n n0 (by rw [hj]; decide) hl
  rw [E0]
  have HS0 := Lib.hid (two_size w (rfCells r m))
  have hX : fJob m = mProgram m.chip m.at_ m.v := fJob_prog hj
  obtain ⟨c1, x1, hx⟩ : ∃ c x, mErase m.chip m.at_ = (c, x) := ⟨_, _, rfl⟩
  rw [hx] at he
  obtain ⟨c2, x2, hy⟩ : ∃ c x, mProgram m.chip m.at_ m.v = (c, x) := ⟨_, _, rfl⟩
  rw [hy] at hX
  have HPR : Hid (∀ V, RefAt V r m.chip → Calls Try.prog 72 #[.agg #[.slice (some ⟨r.gw, 0, none⟩) m.chip.ws.length r.cw, .slice (some ⟨r.ge, 0, none⟩) m.chip.wear.length r.ce, .int .i64 m.chip.endure, .int .i64 m.chip.left, .int .u32 (U m.chip.pick), .bool false], .int .i64 m.at_, .int .u32 (U m.v)] V (RefOut2 V r c2 x2)) := Lib.hid (fun V hV => by
    have := rprogram_any r m.chip k m.at_ m.v V hV ok.chip
    rw [hy] at this
    simp only [refVal, hu, Bool.not_true] at this
    exact this)
  have HC0 := Lib.hid hc0
  simp only [refVal, hu, Bool.not_true] at he
  have HE := Lib.hid he
  clear he hx hy hc0 kw k1 E0 hc
  by_cases h5 : x2 = 5
  · subst h5
    have E := Lib.hid (done_five hX)
    clear hX ok hl n0
    change Calls _ _ #[.agg (rfCells r m).toArray, _] _ _
    go_enter Try.func60, Try.ntmps60
    go_upto_region 11 with (go_at_call 71; (with_reducible refine HE.out.mono ?_); rintro e w1 ⟨r1, rfl, hc1, hb1, hn1⟩; simp only [refVal]; have T1 := Lib.hid (T0.out.call hb1); have HC1 := Lib.hid hc1; have HB1 := Lib.hid hb1; have HN1 := Lib.hid hn1; clear hc1 hb1 hn1)
    obtain ⟨V, hV⟩ : ∃ V, V = w1.alloc (.cells ([.slice (some ⟨r1.gw, 0, none⟩) c1.ws.length r1.cw, .slice (some ⟨r1.ge, 0, none⟩) c1.wear.length r1.ce, .int .i64 c1.endure, .int .i64 c1.left, .int .u32 (U c1.pick), .bool (!c1.up)]).toArray 35) := ⟨_, rfl⟩
    have ba : Below w1.heap.size w1 V := by rw [hV]; exact (Below.refl _ w1).alloc (Nat.le_refl _) _
    have hP : At V w1.heap.size 35 [.slice (some ⟨r1.gw, 0, none⟩) c1.ws.length r1.cw, .slice (some ⟨r1.ge, 0, none⟩) c1.wear.length r1.ce, .int .i64 c1.endure, .int .i64 c1.left, .int .u32 (U c1.pick), .bool (!c1.up)] := by rw [hV]; exact At.alloc_new _ _ _ rfl rfl
    have TB := Lib.hid (T1.out.call ba)
    have HCV := Lib.hid (HC1.out.below ba)
    have HCM := Lib.hid ((HC0.out.below HB1.out).below ba)
    change Code.wp _ _ _ _ (w1.alloc (.cells ([.slice (some ⟨r1.gw, 0, none⟩) c1.ws.length r1.cw, .slice (some ⟨r1.ge, 0, none⟩) c1.wear.length r1.ce, .int .i64 c1.endure, .int .i64 c1.left, .int .u32 (U c1.pick), .bool (!c1.up)]).toArray 35))
    rw [← hV]
    have HRN : Hid (RefNew w r r1) := Lib.hid (RefNew.from (by rw [HS0.out]; omega) HN1.out)
    have HBA := Lib.hid ba
    have HP := Lib.hid hP
    have g0 := TB.out.a.cell 0
    have g1 := TB.out.a.cell 1
    have g2 := TB.out.a.cell 2
    have g3 := TB.out.a.cell 3
    have g4 := TB.out.a.cell 4
    have g5 := TB.out.a.cell 5
    have g73 := TB.out.a.cell 73
    have g74 := TB.out.a.cell 74
    have g75 := TB.out.a.cell 75
    have g76 := TB.out.a.cell 76
    simp only [rfg0, rfg1, rfg2, rfg3, rfg4, rfg5, rfg73, rfg74, rfg75, rfg76] at g0 g1 g2 g3 g4 g5 g73 g74 g75 g76
    have f0 := TB.out.a.frozen 0
    have f1 := TB.out.a.frozen 1
    have f2 := TB.out.a.frozen 2
    have f3 := TB.out.a.frozen 3
    have f4 := TB.out.a.frozen 4
    have f5 := TB.out.a.frozen 5
    have f73 := TB.out.a.frozen 73
    have f74 := TB.out.a.frozen 74
    have f75 := TB.out.a.frozen 75
    have f76 := TB.out.a.frozen 76
    obtain ⟨y0, y1, y2, y3, y4, y5⟩ := hP.all6
    clear hV ba hP
    go_upto_region 13 with (go_at_call 72; (with_reducible refine (HPR.out _ HCM.out).mono ?_); rintro e w2 ⟨r2, rfl, hc2, hb2, hn2⟩; simp only [refVal]; have hP2 : At w2 w1.heap.size _ _ := HP.out.kept (Turned.of_below hb2 (Nat.le_refl _) NoBlock) (fun h => h); have T2 := Lib.hid (TB.out.call hb2); have HC2 := Lib.hid hc2; have HN2 := Lib.hid hn2; have HP2 := Lib.hid hP2; obtain ⟨d0, d1, d2, d3, d4, d5⟩ := hP2.all6; obtain ⟨e0, e1, e2, e3, e4, e5⟩ := hP2.thaw6; clear hc2 hb2 hn2 hP2 y0 y1 y2 y3 y4 y5)
    clear d0 d1 d2 d3 d4 d5 e0 e1 e2 e3 e4 e5 g0 g1 g2 g3 g4 g5 g73 g74 g75 g76 f0 f1 f2 f3 f4 f5 f73 f74 f75 f76
    obtain ⟨V2, hV2⟩ : ∃ V2, V2 = six w2 w1.heap.size (.slice (some ⟨r2.gw, 0, none⟩) c2.ws.length r2.cw) (.slice (some ⟨r2.ge, 0, none⟩) c2.wear.length r2.ce) (.int .i64 c2.endure) (.int .i64 c2.left) (.int .u32 (U c2.pick)) (.bool (!c2.up)) := ⟨_, rfl⟩
    have hP3 := HP2.out.six (.slice (some ⟨r2.gw, 0, none⟩) c2.ws.length r2.cw) (.slice (some ⟨r2.ge, 0, none⟩) c2.wear.length r2.ce) (.int .i64 c2.endure) (.int .i64 c2.left) (.int .u32 (U c2.pick)) (.bool (!c2.up))
    rw [← hV2] at hP3
    have tP := (Turned.refl (Just w1.heap.size) w2).six (P := w1.heap.size) (fun _ => rfl) (.slice (some ⟨r2.gw, 0, none⟩) c2.ws.length r2.cw) (.slice (some ⟨r2.ge, 0, none⟩) c2.wear.length r2.ce) (.int .i64 c2.endure) (.int .i64 c2.left) (.int .u32 (U c2.pick)) (.bool (!c2.up))
    rw [← hV2] at tP
    change Code.wp _ _ _ _ (six w2 w1.heap.size (.slice (some ⟨r2.gw, 0, none⟩) c2.ws.length r2.cw) (.slice (some ⟨r2.ge, 0, none⟩) c2.wear.length r2.ce) (.int .i64 c2.endure) (.int .i64 c2.left) (.int .u32 (U c2.pick)) (.bool (!c2.up)))
    rw [← hV2]
    have TBold := TB
    clear TB
    have TB := Lib.hid (T2.out.other HP2.out tP (by have := T1.out.size; omega))
    have HC3 := Lib.hid (HC2.out.kept tP (fun e => HC2.out.words.ne HP2.out (by decide) e) (fun e => HC2.out.wear.ne HP2.out (by decide) e))
    have HRN2 : Hid (RefNew w r r2) := Lib.hid (RefNew.from (by have := HBA.out.size; have := T1.out.size; omega) HN2.out)
    obtain ⟨y0, y1, y2, y3, y4, y5⟩ := hP3.all6
    clear hV2 hP3 tP TBold
    have g0 := TB.out.a.cell 0
    have g1 := TB.out.a.cell 1
    have g2 := TB.out.a.cell 2
    have g3 := TB.out.a.cell 3
    have g4 := TB.out.a.cell 4
    have g5 := TB.out.a.cell 5
    have g73 := TB.out.a.cell 73
    have g74 := TB.out.a.cell 74
    have g75 := TB.out.a.cell 75
    have g76 := TB.out.a.cell 76
    simp only [rfg0, rfg1, rfg2, rfg3, rfg4, rfg5, rfg73, rfg74, rfg75, rfg76] at g0 g1 g2 g3 g4 g5 g73 g74 g75 g76
    have f0 := TB.out.a.frozen 0
    have f1 := TB.out.a.frozen 1
    have f2 := TB.out.a.frozen 2
    have f3 := TB.out.a.frozen 3
    have f4 := TB.out.a.frozen 4
    have f5 := TB.out.a.frozen 5
    have f73 := TB.out.a.frozen 73
    have f74 := TB.out.a.frozen 74
    have f75 := TB.out.a.frozen 75
    have f76 := TB.out.a.frozen 76
    have TI := Lib.hid (TB.out.idle r2 c2)
    have HCI : Hid (RefAt (idleAt V2 w.heap.size r2 c2) r2 c2) := Lib.hid (HC3.out.other TB.out.a (idleAt_turned _ _ _ _))
    have HN3 := Lib.hid (rf_len r2 (fIdle m c2))
    have HN4 := Lib.hid (rf_len r2 (fWith (fIdle m c2) 32#32))
    have HW5 := Lib.hid (fun V => rwith_any r2 (fIdle m c2) 32#32 V)
    go_wp2_with (first
      | (with_reducible refine wpList_ld (.tmp 2) rfl rfl rfl TI.out.a HN3.out ?_)
      | (go_at_call 70; (refine (HW5.out _).mono ?_); rintro e w5 ⟨rfl, hb5⟩; have TJ := Lib.hid (TI.out.call hb5); have HCJ := Lib.hid (HCI.out.below hb5); clear hb5)
      | ((with_reducible refine wpList_st (.tmp 4) (.tmp 59) rfl rfl rfl rfl TJ.out.b rf_zero_len HN4.out (rf_one _ _) ?_); intro w6 A6 T6; have A6' := Lib.hid A6; have T6' := Lib.hid T6; clear A6 T6))
    exact bodyPost_ret (rf_res2 Try.results60 _ rfl rfl A6'.out HN4.out) rfl (tick_done E.out (HCJ.out.other TJ.out.b T6'.out) (TJ.out.done T6'.out) HRN2.out)
  · have E := Lib.hid (done_other hX h5)
    have q5 : (x2 == 5) = false := by rw [beq_eq_false_iff_ne]; exact h5
    clear h5
    clear hX ok hl n0
    change Calls _ _ #[.agg (rfCells r m).toArray, _] _ _
    go_enter Try.func60, Try.ntmps60
    go_upto_region 11 with (go_at_call 71; (with_reducible refine HE.out.mono ?_); rintro e w1 ⟨r1, rfl, hc1, hb1, hn1⟩; simp only [refVal]; have T1 := Lib.hid (T0.out.call hb1); have HC1 := Lib.hid hc1; have HB1 := Lib.hid hb1; have HN1 := Lib.hid hn1; clear hc1 hb1 hn1)
    obtain ⟨V, hV⟩ : ∃ V, V = w1.alloc (.cells ([.slice (some ⟨r1.gw, 0, none⟩) c1.ws.length r1.cw, .slice (some ⟨r1.ge, 0, none⟩) c1.wear.length r1.ce, .int .i64 c1.endure, .int .i64 c1.left, .int .u32 (U c1.pick), .bool (!c1.up)]).toArray 35) := ⟨_, rfl⟩
    have ba : Below w1.heap.size w1 V := by rw [hV]; exact (Below.refl _ w1).alloc (Nat.le_refl _) _
    have hP : At V w1.heap.size 35 [.slice (some ⟨r1.gw, 0, none⟩) c1.ws.length r1.cw, .slice (some ⟨r1.ge, 0, none⟩) c1.wear.length r1.ce, .int .i64 c1.endure, .int .i64 c1.left, .int .u32 (U c1.pick), .bool (!c1.up)] := by rw [hV]; exact At.alloc_new _ _ _ rfl rfl
    have TB := Lib.hid (T1.out.call ba)
    have HCV := Lib.hid (HC1.out.below ba)
    have HCM := Lib.hid ((HC0.out.below HB1.out).below ba)
    change Code.wp _ _ _ _ (w1.alloc (.cells ([.slice (some ⟨r1.gw, 0, none⟩) c1.ws.length r1.cw, .slice (some ⟨r1.ge, 0, none⟩) c1.wear.length r1.ce, .int .i64 c1.endure, .int .i64 c1.left, .int .u32 (U c1.pick), .bool (!c1.up)]).toArray 35))
    rw [← hV]
    have HRN : Hid (RefNew w r r1) := Lib.hid (RefNew.from (by rw [HS0.out]; omega) HN1.out)
    have HBA := Lib.hid ba
    have HP := Lib.hid hP
    have g0 := TB.out.a.cell 0
    have g1 := TB.out.a.cell 1
    have g2 := TB.out.a.cell 2
    have g3 := TB.out.a.cell 3
    have g4 := TB.out.a.cell 4
    have g5 := TB.out.a.cell 5
    have g73 := TB.out.a.cell 73
    have g74 := TB.out.a.cell 74
    have g75 := TB.out.a.cell 75
    have g76 := TB.out.a.cell 76
    simp only [rfg0, rfg1, rfg2, rfg3, rfg4, rfg5, rfg73, rfg74, rfg75, rfg76] at g0 g1 g2 g3 g4 g5 g73 g74 g75 g76
    have f0 := TB.out.a.frozen 0
    have f1 := TB.out.a.frozen 1
    have f2 := TB.out.a.frozen 2
    have f3 := TB.out.a.frozen 3
    have f4 := TB.out.a.frozen 4
    have f5 := TB.out.a.frozen 5
    have f73 := TB.out.a.frozen 73
    have f74 := TB.out.a.frozen 74
    have f75 := TB.out.a.frozen 75
    have f76 := TB.out.a.frozen 76
    obtain ⟨y0, y1, y2, y3, y4, y5⟩ := hP.all6
    clear hV ba hP
    go_upto_region 13 with (go_at_call 72; (with_reducible refine (HPR.out _ HCM.out).mono ?_); rintro e w2 ⟨r2, rfl, hc2, hb2, hn2⟩; simp only [refVal]; have hP2 : At w2 w1.heap.size _ _ := HP.out.kept (Turned.of_below hb2 (Nat.le_refl _) NoBlock) (fun h => h); have T2 := Lib.hid (TB.out.call hb2); have HC2 := Lib.hid hc2; have HN2 := Lib.hid hn2; have HP2 := Lib.hid hP2; obtain ⟨d0, d1, d2, d3, d4, d5⟩ := hP2.all6; obtain ⟨e0, e1, e2, e3, e4, e5⟩ := hP2.thaw6; clear hc2 hb2 hn2 hP2 y0 y1 y2 y3 y4 y5)
    clear d0 d1 d2 d3 d4 d5 e0 e1 e2 e3 e4 e5 g0 g1 g2 g3 g4 g5 g73 g74 g75 g76 f0 f1 f2 f3 f4 f5 f73 f74 f75 f76
    obtain ⟨V2, hV2⟩ : ∃ V2, V2 = six w2 w1.heap.size (.slice (some ⟨r2.gw, 0, none⟩) c2.ws.length r2.cw) (.slice (some ⟨r2.ge, 0, none⟩) c2.wear.length r2.ce) (.int .i64 c2.endure) (.int .i64 c2.left) (.int .u32 (U c2.pick)) (.bool (!c2.up)) := ⟨_, rfl⟩
    have hP3 := HP2.out.six (.slice (some ⟨r2.gw, 0, none⟩) c2.ws.length r2.cw) (.slice (some ⟨r2.ge, 0, none⟩) c2.wear.length r2.ce) (.int .i64 c2.endure) (.int .i64 c2.left) (.int .u32 (U c2.pick)) (.bool (!c2.up))
    rw [← hV2] at hP3
    have tP := (Turned.refl (Just w1.heap.size) w2).six (P := w1.heap.size) (fun _ => rfl) (.slice (some ⟨r2.gw, 0, none⟩) c2.ws.length r2.cw) (.slice (some ⟨r2.ge, 0, none⟩) c2.wear.length r2.ce) (.int .i64 c2.endure) (.int .i64 c2.left) (.int .u32 (U c2.pick)) (.bool (!c2.up))
    rw [← hV2] at tP
    change Code.wp _ _ _ _ (six w2 w1.heap.size (.slice (some ⟨r2.gw, 0, none⟩) c2.ws.length r2.cw) (.slice (some ⟨r2.ge, 0, none⟩) c2.wear.length r2.ce) (.int .i64 c2.endure) (.int .i64 c2.left) (.int .u32 (U c2.pick)) (.bool (!c2.up)))
    rw [← hV2]
    have TBold := TB
    clear TB
    have TB := Lib.hid (T2.out.other HP2.out tP (by have := T1.out.size; omega))
    have HC3 := Lib.hid (HC2.out.kept tP (fun e => HC2.out.words.ne HP2.out (by decide) e) (fun e => HC2.out.wear.ne HP2.out (by decide) e))
    have HRN2 : Hid (RefNew w r r2) := Lib.hid (RefNew.from (by have := HBA.out.size; have := T1.out.size; omega) HN2.out)
    obtain ⟨y0, y1, y2, y3, y4, y5⟩ := hP3.all6
    clear hV2 hP3 tP TBold
    have g0 := TB.out.a.cell 0
    have g1 := TB.out.a.cell 1
    have g2 := TB.out.a.cell 2
    have g3 := TB.out.a.cell 3
    have g4 := TB.out.a.cell 4
    have g5 := TB.out.a.cell 5
    have g73 := TB.out.a.cell 73
    have g74 := TB.out.a.cell 74
    have g75 := TB.out.a.cell 75
    have g76 := TB.out.a.cell 76
    simp only [rfg0, rfg1, rfg2, rfg3, rfg4, rfg5, rfg73, rfg74, rfg75, rfg76] at g0 g1 g2 g3 g4 g5 g73 g74 g75 g76
    have f0 := TB.out.a.frozen 0
    have f1 := TB.out.a.frozen 1
    have f2 := TB.out.a.frozen 2
    have f3 := TB.out.a.frozen 3
    have f4 := TB.out.a.frozen 4
    have f5 := TB.out.a.frozen 5
    have f73 := TB.out.a.frozen 73
    have f74 := TB.out.a.frozen 74
    have f75 := TB.out.a.frozen 75
    have f76 := TB.out.a.frozen 76
    have TI := Lib.hid (TB.out.idle r2 c2)
    have HCI : Hid (RefAt (idleAt V2 w.heap.size r2 c2) r2 c2) := Lib.hid (HC3.out.other TB.out.a (idleAt_turned _ _ _ _))
    have HN3 := Lib.hid (rf_len r2 (fIdle m c2))
    go_wp2_with (first
      | (with_reducible refine wpList_ld (.tmp 2) rfl rfl rfl TI.out.a HN3.out ?_)
      | ((with_reducible refine wpList_st (.tmp 4) (.tmp 60) rfl rfl rfl rfl TI.out.b rf_zero_len HN3.out (rf_one _ _) ?_); intro w6 A6 T6; have A6' := Lib.hid A6; have T6' := Lib.hid T6; clear A6 T6))
    exact bodyPost_ret (rf_res2 Try.results60 _ rfl rfl A6'.out HN3.out) rfl (tick_done E.out (HCI.out.other TI.out.b T6'.out) (TI.out.done T6'.out) HRN2.out)

end Go.Proofs.Ytfckgfimmoinmaa

namespace Go.Proofs.Ytfckgfimmoinmaa
open Go.RowKit Bm

theorem rtick_any (r : Rh) (m : FlashM) (k : Nat) (n : Int) (w : World) (ok : FlashOk k m) (hc : RefAt w r m.chip) (b0 : -9223372036854775808 ≤ n) (b1 : n ≤ 9223372036854775807) :
    Calls Try.prog 60 #[rfVal r m, .int .i64 n] w (TickOut r (fTick m n) w) := by
  cases hu : m.chip.up
  · exact rtick_early r m k n w ok hc b0 b1 (.inl hu)
  · by_cases h1 : n < 0
    · exact rtick_early r m k n w ok hc b0 b1 (.inr (.inl h1))
    · by_cases h2 : n < m.left
      · exact rtick_early r m k n w ok hc b0 b1 (.inr (.inr (.inr h2)))
      · rcases ok.job with e | e | e
        · exact rtick_early r m k n w ok hc b0 b1 (.inr (.inr (.inl e)))
        · exact rtick_64 r m k n w ok hc hu (by omega) e (by omega)
        · exact rtick_32 r m k n w ok hc hu (by omega) e (by omega)

/-- The document's flash lies in memory: its own block, and its chip's rows. -/
structure DocAt (w : World) (M : Nat) (r : Rh) (m : FlashM) : Prop where
  own : At w M 39 (rfCells r m)
  chip : RefAt w r m.chip
theorem DocAt.kept {w w' : World} {M : Nat} {r : Rh} {m : FlashM} (h : DocAt w M r m) {S : Nat → Prop} (t : Turned S w w') (h1 : ¬ S M) (h2 : ¬ S r.gw) (h3 : ¬ S r.ge) : DocAt w' M r m := ⟨h.own.kept t h1, h.chip.kept t h2 h3⟩
theorem DocAt.below {w w' : World} {M : Nat} {r : Rh} {m : FlashM} (h : DocAt w M r m) (hb : Below w.heap.size w w') : DocAt w' M r m := h.kept (Turned.of_below hb (Nat.le_refl _) NoBlock) (fun h => h) (fun h => h) (fun h => h)
theorem DocAt.load {w : World} {M : Nat} {r : Rh} {m : FlashM} (h : DocAt w M r m) : (Instr.loadAt 39 (.pointer (some ⟨M, 0, none⟩))).run Try.prog w = .ok (.agg (rfCells r m).toArray) w := by
  have := run_loadVar_row (P := Try.prog) w M 39 39 (rfCells r m).toArray (0, 0) _ h.own Try.underlying39 rfl (by rw [rf_size]; simp [rf_len])
  simp only [Instr.loadAt, Instr.sureAddr, Sem.run_bind, Sem.run_pure, Result.andThen_ok, this]
end Go.Proofs.Ytfckgfimmoinmaa
