/- The contract of the document's flash: Tick. -/
import Derived.Test.YteiegkfoabhikaaCfiTwo
import Derived.Test.YteiegkfoabhikaaCfiFacts2
import Derived.Deep.DeepCutAuto
namespace Go.Proofs.Yteiegkfoabhikaa
open Go.RowKit Bm

/-- The document's flash behind a call that may have new words, and a number. -/
def TickOut (r : Rh) (x : FlashM × Int) (w : World) (e : Ending) (w' : World) : Prop :=
  ∃ r', e = .returned (.tuple #[rfVal r' x.1, .int .i64 x.2]) ∧ RefAt w' r' x.1.chip ∧ Below w.heap.size w w' ∧ RefNew w r r'
theorem tick_mk {r : Rh} {m : FlashM} {n : Int} {x : FlashM × Int} {w w' : World} (e : x = (m, n)) (hc : RefAt w r m.chip) (hb : Below w.heap.size w w') : TickOut r x w (.returned (.tuple #[.agg (rfCells r m).toArray, .int .i64 n])) w' := by
  subst e
  exact ⟨r, rfl, hc.below hb, hb, RefNew.refl _ _⟩

theorem set_chip (r r1 : Rh) (m : FlashM) (c1 : ChipM) :
    ((((((rfCells r m).set 0 (.slice (some ⟨r1.gw, 0, none⟩) c1.ws.length r1.cw)).set 1 (.slice (some ⟨r1.ge, 0, none⟩) c1.wear.length r1.ce)).set 2 (.int .i64 c1.endure)).set 3 (.int .i64 c1.left)).set 4 (.int .u32 (U c1.pick))).set 5 (.bool (!c1.up)) = rfCells r1 { m with chip := c1 } := by
  unfold rfCells rfHead refCells
  rfl

abbrev sixAt (w : World) (b : Nat) (r1 : Rh) (c1 : ChipM) : World :=
  (((((w.setCell ⟨b, 0, none⟩ (.slice (some ⟨r1.gw, 0, none⟩) c1.ws.length r1.cw)).setCell ⟨b, 1, none⟩ (.slice (some ⟨r1.ge, 0, none⟩) c1.wear.length r1.ce)).setCell ⟨b, 2, none⟩ (.int .i64 c1.endure)).setCell ⟨b, 3, none⟩ (.int .i64 c1.left)).setCell ⟨b, 4, none⟩ (.int .u32 (U c1.pick))).setCell ⟨b, 5, none⟩ (.bool (!c1.up))
abbrev idleAt (w : World) (b : Nat) (r1 : Rh) (c1 : ChipM) : World :=
  ((((sixAt w b r1 c1).setCell ⟨b, 73, none⟩ (.int .i64 0)).setCell ⟨b, 74, none⟩ (.int .i64 0)).setCell ⟨b, 75, none⟩ (.int .u32 0)).setCell ⟨b, 76, none⟩ (.int .i64 0)
theorem Two.idle {w w1 : World} {ds : List Value} {r : Rh} {m : FlashM} (h : Two w (rfCells r m) ds w1) (r1 : Rh) (c1 : ChipM) : Two w (rfCells r1 (fIdle m c1)) ds (idleAt w1 w.heap.size r1 c1) := by
  have h6 := (((((h.put 0 (.slice (some ⟨r1.gw, 0, none⟩) c1.ws.length r1.cw) rfl).put 1 (.slice (some ⟨r1.ge, 0, none⟩) c1.wear.length r1.ce) rfl).put 2 (.int .i64 c1.endure) rfl).put 3 (.int .i64 c1.left) rfl).put 4 (.int .u32 (U c1.pick)) rfl).put 5 (.bool (!c1.up)) (set_chip r r1 m c1)
  exact (((h6.put 73 (.int .i64 0) (rfs73 _ _ _)).put 74 (.int .i64 0) (rfs740 _ _)).put 75 (.int .u32 0) (rfs750 _ _)).put 76 (.int .i64 0) (rfs76 _ _ _)
theorem idleAt_turned (w : World) (b : Nat) (r1 : Rh) (c1 : ChipM) : Turned (Just b) w (idleAt w b r1 c1) :=
  ((((((((((Turned.refl (Just b) w).setCell (p := ⟨b, 0, none⟩) (fun _ => rfl) _).setCell (p := ⟨b, 1, none⟩) (fun _ => rfl) _).setCell (p := ⟨b, 2, none⟩) (fun _ => rfl) _).setCell (p := ⟨b, 3, none⟩) (fun _ => rfl) _).setCell (p := ⟨b, 4, none⟩) (fun _ => rfl) _).setCell (p := ⟨b, 5, none⟩) (fun _ => rfl) _).setCell (p := ⟨b, 73, none⟩) (fun _ => rfl) _).setCell (p := ⟨b, 74, none⟩) (fun _ => rfl) _).setCell (p := ⟨b, 75, none⟩) (fun _ => rfl) _).setCell (p := ⟨b, 76, none⟩) (fun _ => rfl) _

theorem RefAt.other {w w' : World} {r : Rh} {c : ChipM} (h : RefAt w r c) {b : Nat} {cs : List Value} (hA : At w b 36 cs) (t : Turned (Just b) w w') : RefAt w' r c :=
  h.kept t (fun e => h.words.ne hA (by decide) e) (fun e => h.wear.ne hA (by decide) e)

set_option maxRecDepth 100000 in
set_option maxHeartbeats 8000000 in
theorem rtick_early (r : Rh) (m : FlashM) (k : Nat) (n : Int) (w : World) (ok : FlashOk k m) (hc : RefAt w r m.chip) (b0 : -9223372036854775808 ≤ n) (b1 : n ≤ 9223372036854775807)
    (h : m.chip.up = false ∨ n < 0 ∨ m.job = 0 ∨ n < m.left) :
    Calls Try.prog 16 #[rfVal r m, .int .i64 n] w (TickOut r (fTick m n) w) := by
  have hz := rf_zero
  have HN := Lib.hid (rf_len r m)
  have T0 := Lib.hid (Two.start w (rfCells r m))
  have HC := Lib.hid hc
  have kw := ok.chip.words
  have k1 := ok.chip.k1
  have hlen : 0 < m.chip.ws.length := by omega
  clear kw k1 hc
  cases hu : m.chip.up
  · have E : Hid (fTick m n = (m, 4)) := Lib.hid (by
      have : fRefuse m 0 = 4 := by unfold fRefuse mRefuse; rw [if_pos hu]
      unfold fTick
      rw [if_pos (by rw [this]; decide), this])
    clear h ok hlen
    change Calls _ _ #[.agg (rfCells r m).toArray, _] _ _
    go_enter Try.func16, Try.ntmps16
    go_wp2_with (first
      | (with_reducible refine wpList_ld (.tmp 2) rfl rfl rfl T0.out.a HN.out ?_)
      | ((with_reducible refine wpList_st (.tmp 4) (.tmp 11) rfl rfl rfl rfl T0.out.b rf_zero_len HN.out (rf_one _ _) ?_); intro w4 A4 T4; have A4' := Lib.hid A4; have T4' := Lib.hid T4; clear A4 T4))
    exact bodyPost_ret (rf_res2 Try.results16 _ rfl rfl A4'.out HN.out) rfl (tick_mk E.out HC.out (T0.out.done T4'.out))
  rw [hu] at h
  have hu' : m.chip.up = true := hu
  by_cases h1 : n < 0
  · have E : Hid (fTick m n = (m, 2)) := Lib.hid (by unfold fTick; rw [if_neg (by rw [fRefuse_on hu' 0 (by omega) (by omega)]; decide), if_pos h1])
    clear h ok hlen
    change Calls _ _ #[.agg (rfCells r m).toArray, _] _ _
    go_enter Try.func16, Try.ntmps16
    go_wp2_with (first
      | (with_reducible refine wpList_ld (.tmp 2) rfl rfl rfl T0.out.a HN.out ?_)
      | ((with_reducible refine wpList_st (.tmp 4) (.tmp 14) rfl rfl rfl rfl T0.out.b rf_zero_len HN.out (rf_one _ _) ?_); intro w4 A4 T4; have A4' := Lib.hid A4; have T4' := Lib.hid T4; clear A4 T4))
    exact bodyPost_ret (rf_res2 Try.results16 _ rfl rfl A4'.out HN.out) rfl (tick_mk E.out HC.out (T0.out.done T4'.out))
  have n0 : 0 ≤ n := by omega
  by_cases j : m.job = 0
  · have E := Lib.hid (fTick_idle hu' hlen n n0 j)
    clear h ok hlen
    change Calls _ _ #[.agg (rfCells r m).toArray, _] _ _
    go_enter Try.func16, Try.ntmps16
    go_wp2_with (first
      | (with_reducible refine wpList_ld (.tmp 2) rfl rfl rfl T0.out.a HN.out ?_)
      | ((with_reducible refine wpList_st (.tmp 4) (.tmp 18) rfl rfl rfl rfl T0.out.b rf_zero_len HN.out (rf_one _ _) ?_); intro w4 A4 T4; have A4' := Lib.hid A4; have T4' := Lib.hid T4; clear A4 T4))
    exact bodyPost_ret (rf_res2 Try.results16 _ rfl rfl A4'.out HN.out) rfl (tick_mk E.out HC.out (T0.out.done T4'.out))
  have hl : n < m.left := by
    rcases h with h | h | h | h
    · cases h
    · omega
    · exact absurd h j
    · exact h
  have q1 : (m.job == 0) = false := by rw [beq_eq_false_iff_ne]; exact j
  have l1 := (ok.busy j).2.2.1
  have l2 := (ok.busy j).2.2.2
  have E := Lib.hid (fTick_wait hu' hlen n n0 j hl)
  have HN2 := Lib.hid (rf_len r { m with left := m.left - n })
  have HC2 : Hid (RefAt w r ({ m with left := m.left - n } : FlashM).chip) := Lib.hid HC.out
  clear h ok hlen j
  change Calls _ _ #[.agg (rfCells r m).toArray, _] _ _
  go_enter Try.func16, Try.ntmps16
  go_wp2_with (first
    | (with_reducible refine wpList_ld (.tmp 2) rfl rfl rfl (two_a w (rfCells r { m with left := m.left - n })) HN2.out ?_)
    | ((with_reducible refine wpList_st (.tmp 4) (.tmp 28) rfl rfl rfl rfl (two_b w (rfCells r { m with left := m.left - n })) rf_zero_len HN2.out (rf_one _ _) ?_); intro w4 A4 T4; have A4' := Lib.hid A4; have T4' := Lib.hid T4; clear A4 T4))
  exact bodyPost_ret (rf_res2 Try.results16 _ rfl rfl A4'.out HN2.out) rfl (tick_mk E.out HC2.out (two_done0 (cs := rfCells r { m with left := m.left - n }) T4'.out))
end Go.Proofs.Yteiegkfoabhikaa
