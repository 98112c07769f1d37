/- The contract of the document's flash: Read. -/
import Derived.Test.YtfckgfimmoinmaaCfiRA
import Derived.Test.YtfckgfimmoinmaaCfiB
namespace Go.Proofs.Ytfckgfimmoinmaa
open Go.RowKit Bm

theorem one_a (w : World) (cs : List Value) : At (w.alloc (.cells cs.toArray 39)) w.heap.size 39 cs := At.news w _ _
theorem one_below (w : World) (cs : List Value) : Below w.heap.size w (w.alloc (.cells cs.toArray 39)) := (Below.refl _ w).alloc (Nat.le_refl _) _

/-- A word and a code, and nothing but new memory. -/
def Gives2 (x : BitVec 32 × Int) (w : World) (e : Ending) (w' : World) : Prop := Gives (.tuple #[.int .u32 (U x.1), .int .i64 x.2]) w e w'
theorem gives2_mk {x : BitVec 32 × Int} {b : BitVec 32} {bi n : Int} {w w' : World} (hb : bi = U b) (e : x = (b, n)) (hB : Below w.heap.size w w') : Gives2 x w (.returned (.tuple #[.int .u32 bi, .int .i64 n])) w' := by
  subst e hb
  exact ⟨rfl, hB⟩
/-- The block of a call, behind the first call within. -/
structure One (w : World) (cs : List Value) (w1 : World) : Prop where
  a : At w1 w.heap.size 39 cs
  below : Below w.heap.size w w1
theorem One.start (w : World) (cs : List Value) : One w cs (w.alloc (.cells cs.toArray 39)) := ⟨one_a w cs, one_below w cs⟩
theorem One.call {w w1 w2 : World} {cs : List Value} (h : One w cs w1) (hb : Below w1.heap.size w1 w2) : One w cs w2 :=
  ⟨h.a.kept (Turned.of_below hb (Nat.le_refl _) NoBlock) (fun h => h), h.below.trans (hb.mono (by have := h.a.lt; omega))⟩

set_option maxRecDepth 100000 in
set_option maxHeartbeats 8000000 in
theorem fref_read (r : Rh) (m : FlashM) (k : Nat) (a : Int) (w : World) (ok : FlashOk k m) (hc : RefAt w r m.chip) :
    Calls Try.prog 47 #[rfVal r m, .int .i64 a] w (Gives2 (fRead m a) w) := by
  have HN := Lib.hid (rf_len r m)
  have T0 := Lib.hid (One.start w (rfCells r m))
  have HC := Lib.hid (fun W => rwrong_any r m a W)
  by_cases r0 : fRefuse m a = 0
  case neg =>
    have E := Lib.hid (fRead_no r0)
    have q0 : (fRefuse m a != 0) = true := by rw [bne_iff_ne]; exact r0
    clear r0 ok hc
    change Calls _ _ #[.agg (rfCells r m).toArray, _] _ _
    go_enter Try.func47, Try.ntmps47
    go_wp2_with (first
      | (with_reducible refine wpList_ld (.tmp 2) rfl rfl rfl T0.out.a HN.out ?_)
      | (with_reducible refine wpList_ld (.tmp 2) rfl rfl rfl T1.out.a HN.out ?_)
      | (go_at_call 63; (refine (HC.out _).mono ?_); rintro e w1 ⟨rfl, hb1⟩; have T1 := Lib.hid (T0.out.call hb1); clear hb1; have g1 := T1.out.a.cell 1; have g6 := T1.out.a.cell 6; have g73 := T1.out.a.cell 73; simp only [rfg1, rfg6, rfg73] at g1 g6 g73))
    go_ret2
    exact gives2_mk rfl E.out T1.out.below
  rw [r0] at HC
  obtain ⟨_, a0, a1⟩ := fRefuse_zero r0
  obtain ⟨i, rfl⟩ := Int.eq_ofNat_of_zero_le a0
  have hi : i < 4096 := by have := ok.len; omega
  have hiw : i < m.chip.ws.length := by omega
  have E := Lib.hid (fRead_yes r0)
  have HS := Lib.hid (fun W => rstatus_any r m k W ok)
  have kw : m.chip.wear.length ≤ 64 := by have := ok.chip.wears; have := ok.chip.k2; omega
  have HCR := Lib.hid hc
  have HKW := Lib.hid kw
  have HIW := Lib.hid hiw
  clear r0 a0 a1 kw hiw hc
  by_cases j : m.job = 0
  case neg =>
    have D : Hid (fReadDo m i = fStatus m) := Lib.hid (by unfold fReadDo; have := (ok.busy j).1; rw [if_neg (by rw [this]; decide), if_neg (by rw [this]; decide), if_neg (by rw [this]; decide)])
    have q1 : (m.job != 0) = true := by rw [bne_iff_ne]; exact j
    clear j ok hi
    change Calls _ _ #[.agg (rfCells r m).toArray, _] _ _
    go_enter Try.func47, Try.ntmps47
    go_wp2_with (first
      | (with_reducible refine wpList_ld (.tmp 2) rfl rfl rfl T0.out.a HN.out ?_)
      | (with_reducible refine wpList_ld (.tmp 2) rfl rfl rfl T1.out.a HN.out ?_)
      | (go_at_call 63; (refine (HC.out _).mono ?_); rintro e w1 ⟨rfl, hb1⟩; have T1 := Lib.hid (T0.out.call hb1); clear hb1; have g1 := T1.out.a.cell 1; have g6 := T1.out.a.cell 6; have g73 := T1.out.a.cell 73; simp only [rfg1, rfg6, rfg73] at g1 g6 g73)
      | (go_at_call 59; (refine (HS.out _).mono ?_); rintro e w2 ⟨rfl, hb2⟩; have T2 := Lib.hid (T1.out.call hb2); clear hb2))
    go_ret2
    exact gives2_mk rfl (by rw [E.out, D.out]) T2.out.below
  rcases ok.mode with e | e | e | e
  · -- array
    have D : Hid (fReadDo m i = wd m.chip.ws i) := Lib.hid (by unfold fReadDo; rw [if_pos e])
    clear ok
    change Calls _ _ #[.agg (rfCells r m).toArray, _] _ _
    go_enter Try.func47, Try.ntmps47
    go_wp2_with (first
      | (with_reducible refine wpList_ld (.tmp 2) rfl rfl rfl T0.out.a HN.out ?_)
      | (with_reducible refine wpList_ld (.tmp 2) rfl rfl rfl T1.out.a HN.out ?_)
      | (go_at_call 63; (refine (HC.out _).mono ?_); rintro e w1 ⟨rfl, hb1⟩; have T1 := Lib.hid (T0.out.call hb1); clear hb1; have g1 := T1.out.a.cell 1; have g6 := T1.out.a.cell 6; have g73 := T1.out.a.cell 73; simp only [rfg1, rfg6, rfg73] at g1 g6 g73; have g0 := T1.out.a.cell 0; simp only [rfg0] at g0; have rw1 := HCR.out.kept (Turned.of_below T1.out.below (Nat.le_refl _) NoBlock) (fun h => h) (fun h => h); have gi := rw1.word i HIW.out; have i1 := rw1.wle; have i2 := rw1.wm; have hiw := HIW.out; clear rw1))
    go_ret2
    exact gives2_mk rfl (by rw [E.out, D.out]) T1.out.below
  · have D : Hid (fReadDo m i = fStatus m) := Lib.hid (by unfold fReadDo; rw [if_neg (by rw [e]; decide), if_neg (by rw [e]; decide), if_neg (by rw [e]; decide)])
    clear ok hi
    change Calls _ _ #[.agg (rfCells r m).toArray, _] _ _
    go_enter Try.func47, Try.ntmps47
    go_wp2_with (first
      | (with_reducible refine wpList_ld (.tmp 2) rfl rfl rfl T0.out.a HN.out ?_)
      | (with_reducible refine wpList_ld (.tmp 2) rfl rfl rfl T1.out.a HN.out ?_)
      | (go_at_call 63; (refine (HC.out _).mono ?_); rintro e w1 ⟨rfl, hb1⟩; have T1 := Lib.hid (T0.out.call hb1); clear hb1; have g1 := T1.out.a.cell 1; have g6 := T1.out.a.cell 6; have g73 := T1.out.a.cell 73; simp only [rfg1, rfg6, rfg73] at g1 g6 g73)
      | (go_at_call 59; (refine (HS.out _).mono ?_); rintro e w2 ⟨rfl, hb2⟩; have T2 := Lib.hid (T1.out.call hb2); clear hb2))
    go_ret2
    exact gives2_mk rfl (by rw [E.out, D.out]) T2.out.below
  · have D : Hid (fReadDo m i = fId m i) := Lib.hid (by unfold fReadDo; rw [if_neg (by rw [e]; decide), if_pos e])
    clear ok
    have i0 : (0 : Int) ≤ (i : Int) := by omega
    obtain ⟨q, hq⟩ : ∃ q, q = i / 64 := ⟨_, rfl⟩
    have hq64 : q < 64 := by omega
    have iq : (i : Int) / 64 = (q : Int) := by omega
    have q0 : (q : Int) < 64 := by omega
    have GL := Lib.hid (rf_lock r m q hq64)
    have HQ := Lib.hid hq
    clear hq
    by_cases c0 : i % 64 = 0
    · have G : Hid (fId m i = 137#32) := Lib.hid (by unfold fId; rw [if_pos c0])
      have z0 : ((i : Int) % 64 == 0) = true := by rw [beq_iff_eq]; omega
      clear c0
      change Calls _ _ #[.agg (rfCells r m).toArray, _] _ _
      go_enter Try.func47, Try.ntmps47
      go_wp2_with (first
        | (with_reducible refine wpList_ld (.tmp 2) rfl rfl rfl T0.out.a HN.out ?_)
        | (with_reducible refine wpList_ld (.tmp 2) rfl rfl rfl T1.out.a HN.out ?_)
        | (go_at_call 63; (refine (HC.out _).mono ?_); rintro e w1 ⟨rfl, hb1⟩; have T1 := Lib.hid (T0.out.call hb1); clear hb1; have g1 := T1.out.a.cell 1; have g6 := T1.out.a.cell 6; have g73 := T1.out.a.cell 73; simp only [rfg1, rfg6, rfg73] at g1 g6 g73))
      go_ret2
      exact gives2_mk (b := 137#32) rfl (by rw [E.out, D.out, G.out]) T1.out.below
    have z0 : ((i : Int) % 64 == 0) = false := by rw [beq_eq_false_iff_ne]; omega
    by_cases c1 : i % 64 = 1
    · have G : Hid (fId m i = 24#32) := Lib.hid (by unfold fId; rw [if_neg c0, if_pos c1])
      have z1 : ((i : Int) % 64 == 1) = true := by rw [beq_iff_eq]; omega
      clear c0 c1
      change Calls _ _ #[.agg (rfCells r m).toArray, _] _ _
      go_enter Try.func47, Try.ntmps47
      go_wp2_with (first
        | (with_reducible refine wpList_ld (.tmp 2) rfl rfl rfl T0.out.a HN.out ?_)
        | (with_reducible refine wpList_ld (.tmp 2) rfl rfl rfl T1.out.a HN.out ?_)
        | (go_at_call 63; (refine (HC.out _).mono ?_); rintro e w1 ⟨rfl, hb1⟩; have T1 := Lib.hid (T0.out.call hb1); clear hb1; have g1 := T1.out.a.cell 1; have g6 := T1.out.a.cell 6; have g73 := T1.out.a.cell 73; simp only [rfg1, rfg6, rfg73] at g1 g6 g73))
      go_ret2
      exact gives2_mk (b := 24#32) rfl (by rw [E.out, D.out, G.out]) T1.out.below
    have z1 : ((i : Int) % 64 == 1) = false := by rw [beq_eq_false_iff_ne]; omega
    by_cases c2 : i % 64 = 2
    · have z2 : ((i : Int) % 64 == 2) = true := by rw [beq_iff_eq]; omega
      cases hk : lk m.locks q
      · have G : Hid (fId m i = 0#32) := Lib.hid (by unfold fId; rw [if_neg c0, if_neg c1, if_pos c2, ← HQ.out, hk]; rfl)
        clear c0 c1 c2
        change Calls _ _ #[.agg (rfCells r m).toArray, _] _ _
        go_enter Try.func47, Try.ntmps47
        go_wp2_with (first
          | (with_reducible refine wpList_ld (.tmp 2) rfl rfl rfl T0.out.a HN.out ?_)
          | (with_reducible refine wpList_ld (.tmp 2) rfl rfl rfl T1.out.a HN.out ?_)
          | (go_at_call 63; (refine (HC.out _).mono ?_); rintro e w1 ⟨rfl, hb1⟩; have T1 := Lib.hid (T0.out.call hb1); clear hb1; have g1 := T1.out.a.cell 1; have g6 := T1.out.a.cell 6; have g73 := T1.out.a.cell 73; simp only [rfg1, rfg6, rfg73] at g1 g6 g73; have gL := T1.out.a.cell (9 + q); rw [GL.out] at gL))
        go_ret2
        exact gives2_mk (b := 0#32) rfl (by rw [E.out, D.out, G.out]) T1.out.below
      · have G : Hid (fId m i = 1#32) := Lib.hid (by unfold fId; rw [if_neg c0, if_neg c1, if_pos c2, ← HQ.out, hk]; rfl)
        clear c0 c1 c2
        change Calls _ _ #[.agg (rfCells r m).toArray, _] _ _
        go_enter Try.func47, Try.ntmps47
        go_wp2_with (first
          | (with_reducible refine wpList_ld (.tmp 2) rfl rfl rfl T0.out.a HN.out ?_)
          | (with_reducible refine wpList_ld (.tmp 2) rfl rfl rfl T1.out.a HN.out ?_)
          | (go_at_call 63; (refine (HC.out _).mono ?_); rintro e w1 ⟨rfl, hb1⟩; have T1 := Lib.hid (T0.out.call hb1); clear hb1; have g1 := T1.out.a.cell 1; have g6 := T1.out.a.cell 6; have g73 := T1.out.a.cell 73; simp only [rfg1, rfg6, rfg73] at g1 g6 g73; have gL := T1.out.a.cell (9 + q); rw [GL.out] at gL))
        go_ret2
        exact gives2_mk (b := 1#32) rfl (by rw [E.out, D.out, G.out]) T1.out.below
    have z2 : ((i : Int) % 64 == 2) = false := by rw [beq_eq_false_iff_ne]; omega
    have G : Hid (fId m i = 0#32) := Lib.hid (by unfold fId; rw [if_neg c0, if_neg c1, if_neg c2])
    clear c0 c1 c2
    change Calls _ _ #[.agg (rfCells r m).toArray, _] _ _
    go_enter Try.func47, Try.ntmps47
    go_wp2_with (first
      | (with_reducible refine wpList_ld (.tmp 2) rfl rfl rfl T0.out.a HN.out ?_)
      | (with_reducible refine wpList_ld (.tmp 2) rfl rfl rfl T1.out.a HN.out ?_)
      | (go_at_call 63; (refine (HC.out _).mono ?_); rintro e w1 ⟨rfl, hb1⟩; have T1 := Lib.hid (T0.out.call hb1); clear hb1; have g1 := T1.out.a.cell 1; have g6 := T1.out.a.cell 6; have g73 := T1.out.a.cell 73; simp only [rfg1, rfg6, rfg73] at g1 g6 g73))
    go_ret2
    exact gives2_mk (b := 0#32) rfl (by rw [E.out, D.out, G.out]) T1.out.below
  · have D : Hid (fReadDo m i = fQuery m i) := Lib.hid (by unfold fReadDo; rw [if_neg (by rw [e]; decide), if_neg (by rw [e]; decide), if_pos e])
    clear ok
    have kl := HKW.out
    have kl' : (m.chip.wear.length : Int) ≤ 64 := by omega
    clear kl
    by_cases c16 : i = 16
    · have G : Hid (fQuery m i = 81#32) := Lib.hid (by unfold fQuery; rw [c16]; rfl)
      have G' := Lib.hid (show fRead m (16 : Nat) = (81#32, 0) by have := E.out; rw [D.out, G.out, c16] at this; exact this)
      subst c16
      change Calls _ _ #[.agg (rfCells r m).toArray, .int .i64 16] _ _
      go_enter Try.func47, Try.ntmps47
      go_wp2_with (first
        | (with_reducible refine wpList_ld (.tmp 2) rfl rfl rfl T0.out.a HN.out ?_)
        | (with_reducible refine wpList_ld (.tmp 2) rfl rfl rfl T1.out.a HN.out ?_)
        | (go_at_call 63; (refine (HC.out _).mono ?_); rintro e w1 ⟨rfl, hb1⟩; have T1 := Lib.hid (T0.out.call hb1); clear hb1; have g1 := T1.out.a.cell 1; have g6 := T1.out.a.cell 6; have g73 := T1.out.a.cell 73; simp only [rfg1, rfg6, rfg73] at g1 g6 g73))
      go_ret2
      exact gives2_mk (b := 81#32) rfl G'.out (T1.out.below.alloc (by have := T1.out.a.lt; omega) (.cells #[.int .u32 81, .int .u32 82, .int .u32 89] 33))
    by_cases c17 : i = 17
    · have G : Hid (fQuery m i = 82#32) := Lib.hid (by unfold fQuery; rw [c17]; rfl)
      have G' := Lib.hid (show fRead m (17 : Nat) = (82#32, 0) by have := E.out; rw [D.out, G.out, c17] at this; exact this)
      subst c17
      change Calls _ _ #[.agg (rfCells r m).toArray, .int .i64 17] _ _
      go_enter Try.func47, Try.ntmps47
      go_wp2_with (first
        | (with_reducible refine wpList_ld (.tmp 2) rfl rfl rfl T0.out.a HN.out ?_)
        | (with_reducible refine wpList_ld (.tmp 2) rfl rfl rfl T1.out.a HN.out ?_)
        | (go_at_call 63; (refine (HC.out _).mono ?_); rintro e w1 ⟨rfl, hb1⟩; have T1 := Lib.hid (T0.out.call hb1); clear hb1; have g1 := T1.out.a.cell 1; have g6 := T1.out.a.cell 6; have g73 := T1.out.a.cell 73; simp only [rfg1, rfg6, rfg73] at g1 g6 g73))
      go_ret2
      exact gives2_mk (b := 82#32) rfl G'.out (T1.out.below.alloc (by have := T1.out.a.lt; omega) (.cells #[.int .u32 81, .int .u32 82, .int .u32 89] 33))
    by_cases c18 : i = 18
    · have G : Hid (fQuery m i = 89#32) := Lib.hid (by unfold fQuery; rw [c18]; rfl)
      have G' := Lib.hid (show fRead m (18 : Nat) = (89#32, 0) by have := E.out; rw [D.out, G.out, c18] at this; exact this)
      subst c18
      change Calls _ _ #[.agg (rfCells r m).toArray, .int .i64 18] _ _
      go_enter Try.func47, Try.ntmps47
      go_wp2_with (first
        | (with_reducible refine wpList_ld (.tmp 2) rfl rfl rfl T0.out.a HN.out ?_)
        | (with_reducible refine wpList_ld (.tmp 2) rfl rfl rfl T1.out.a HN.out ?_)
        | (go_at_call 63; (refine (HC.out _).mono ?_); rintro e w1 ⟨rfl, hb1⟩; have T1 := Lib.hid (T0.out.call hb1); clear hb1; have g1 := T1.out.a.cell 1; have g6 := T1.out.a.cell 6; have g73 := T1.out.a.cell 73; simp only [rfg1, rfg6, rfg73] at g1 g6 g73))
      go_ret2
      exact gives2_mk (b := 89#32) rfl G'.out (T1.out.below.alloc (by have := T1.out.a.lt; omega) (.cells #[.int .u32 81, .int .u32 82, .int .u32 89] 33))
    by_cases c44 : i = 44
    · have G : Hid (fQuery m i = BitVec.ofNat 32 m.chip.wear.length) := Lib.hid (by unfold fQuery; rw [c44]; rfl)
      have G' := Lib.hid (show fRead m (44 : Nat) = (BitVec.ofNat 32 m.chip.wear.length, 0) by have := E.out; rw [D.out, G.out, c44] at this; exact this)
      have W' := Lib.hid (ofNat_small m.chip.wear.length HKW.out).symm
      subst c44
      change Calls _ _ #[.agg (rfCells r m).toArray, .int .i64 44] _ _
      go_enter Try.func47, Try.ntmps47
      go_wp2_with (first
        | (with_reducible refine wpList_ld (.tmp 2) rfl rfl rfl T0.out.a HN.out ?_)
        | (with_reducible refine wpList_ld (.tmp 2) rfl rfl rfl T1.out.a HN.out ?_)
        | (go_at_call 63; (refine (HC.out _).mono ?_); rintro e w1 ⟨rfl, hb1⟩; have T1 := Lib.hid (T0.out.call hb1); clear hb1; have g1 := T1.out.a.cell 1; have g6 := T1.out.a.cell 6; have g73 := T1.out.a.cell 73; simp only [rfg1, rfg6, rfg73] at g1 g6 g73))
      go_ret2
      exact gives2_mk W'.out G'.out T1.out.below
    have G : Hid (fQuery m i = 0#32) := Lib.hid (by unfold fQuery; rw [if_neg c16, if_neg c17, if_neg c18, if_neg c44])
    have z44 : ((i : Int) == 44) = false := by rw [beq_eq_false_iff_ne]; omega
    by_cases l16 : 16 ≤ i
    · have y1 : (16 : Int) ≤ (i : Int) := by omega
      have y2 : ¬ ((i : Int) ≤ 18) := by omega
      clear c16 c17 c18 c44 l16
      change Calls _ _ #[.agg (rfCells r m).toArray, _] _ _
      go_enter Try.func47, Try.ntmps47
      go_wp2_with (first
        | (with_reducible refine wpList_ld (.tmp 2) rfl rfl rfl T0.out.a HN.out ?_)
        | (with_reducible refine wpList_ld (.tmp 2) rfl rfl rfl T1.out.a HN.out ?_)
        | (go_at_call 63; (refine (HC.out _).mono ?_); rintro e w1 ⟨rfl, hb1⟩; have T1 := Lib.hid (T0.out.call hb1); clear hb1; have g1 := T1.out.a.cell 1; have g6 := T1.out.a.cell 6; have g73 := T1.out.a.cell 73; simp only [rfg1, rfg6, rfg73] at g1 g6 g73))
      go_ret2
      exact gives2_mk (b := 0#32) rfl (by rw [E.out, D.out, G.out]) T1.out.below
    · have y1 : ¬ ((16 : Int) ≤ (i : Int)) := by omega
      clear c16 c17 c18 c44 l16
      change Calls _ _ #[.agg (rfCells r m).toArray, _] _ _
      go_enter Try.func47, Try.ntmps47
      go_wp2_with (first
        | (with_reducible refine wpList_ld (.tmp 2) rfl rfl rfl T0.out.a HN.out ?_)
        | (with_reducible refine wpList_ld (.tmp 2) rfl rfl rfl T1.out.a HN.out ?_)
        | (go_at_call 63; (refine (HC.out _).mono ?_); rintro e w1 ⟨rfl, hb1⟩; have T1 := Lib.hid (T0.out.call hb1); clear hb1; have g1 := T1.out.a.cell 1; have g6 := T1.out.a.cell 6; have g73 := T1.out.a.cell 73; simp only [rfg1, rfg6, rfg73] at g1 g6 g73))
      go_ret2
      exact gives2_mk (b := 0#32) rfl (by rw [E.out, D.out, G.out]) T1.out.below
end Go.Proofs.Ytfckgfimmoinmaa
