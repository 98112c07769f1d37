/- The contract of nor's Erase. -/
import Derived.Test.YtfckgfimmoinmaaNor
namespace Go.Proofs.Ytfckgfimmoinmaa
open Go.RowKit Bm

theorem erase_no (h : Hd) (c : ChipM) (k : Nat) (a : Int) (w : World) (hc : ChipAt w h c) (ok : ChipOk k c) (hr : mRefuse c a c.wear.length ≠ 0) :
    Calls Try.prog 93 #[.pointer (some ⟨h.p, 0, none⟩), .int .i64 a] w fun e w' => e = .returned (.int .i64 (mRefuse c a c.wear.length)) ∧ w' = w := by
  have k1 := ok.k1
  have k2 := ok.k2
  have kw := ok.wears
  have q : (mRefuse c a c.wear.length == 0) = false := by rw [beq_eq_false_iff_ne]; exact hr
  have q' : (mRefuse c a c.wear.length != 0) = true := by rw [bne_iff_ne]; exact hr
  have k3 : 1 ≤ c.wear.length := by omega
  clear hr kw k1
  go_enter Try.func93, Try.ntmps93
  go_wp2_with (first
    | (go_at_call 49; with_reducible refine (blocks_any _ _ _ hc).mono ?_; rintro e w' ⟨rfl, rfl⟩)
    | (go_at_call 88; with_reducible refine (refuse_any _ _ _ _ _ hc k3).mono ?_; rintro e w' ⟨rfl, rfl⟩))
  go_ret
  exact ⟨rfl, rfl⟩

theorem erase_worn (h : Hd) (c : ChipM) (k : Nat) (b : Nat) (w : World) (hc : ChipAt w h c) (ok : ChipOk k c) (hb : b < c.wear.length) (hr : mRefuse c b c.wear.length = 0) (hw : c.endure ≤ nm c.wear b) :
    Calls Try.prog 93 #[.pointer (some ⟨h.p, 0, none⟩), .int .i64 b] w fun e w' => e = .returned (.int .i64 5) ∧ ∃ n, w' = w.drewN n := by
  have k2 := ok.k2
  have kw := ok.wears
  have k3 : 1 ≤ c.wear.length := by omega
  have k4 : c.wear.length ≤ 64 := by omega
  have g1 := hc.own.cell 1
  have g2 := hc.own.cell 2
  simp only [chipCells, List.getElem?_cons_zero, List.getElem?_cons_succ] at g1 g2
  have gb := hc.worn b hb
  clear kw
  go_enter Try.func93, Try.ntmps93
  go_wp2_with (first
    | (go_at_call 49; with_reducible refine (blocks_any _ _ _ hc).mono ?_; rintro e w' ⟨rfl, rfl⟩)
    | (go_at_call 88; with_reducible refine (refuse_any _ _ _ _ _ hc k3).mono ?_; rintro e w' ⟨rfl, rfl⟩))
  go_quiet (fail)
  go_wp2
  go_ret
  exact ⟨rfl, _, rfl⟩

theorem partial_ones (f p : BitVec 32) (w : World) :
    Calls Try.prog 99 #[.int .u32 (U f), .int .u32 4294967295, .int .u32 (U p)] w fun e w' => e = .returned (.int .u32 (U (partB f ones p))) ∧ w' = w :=
  partial_any f ones p w

/-- In the midst of an erasure: n words are done. -/
def eraseState (c : ChipM) (b n : Nat) : ChipM := { mChange c with wear := c.wear.set b (nm c.wear b + 1), ws := eraseTo c.ws b n (mPick c) }

theorem ChipAt.eraseStep {w : World} {h : Hd} {c : ChipM} {b n : Nat} (hc : ChipAt w h (eraseState c b n)) (hi : b * 64 + n < c.ws.length) :
    ChipAt (w.setCell ⟨h.bw, b * 64 + n, none⟩ (.int .u32 (U (partB (wd c.ws (b * 64 + n)) ones (turnB (mPick c) (n : Int)))))) h (eraseState c b (n + 1)) := by
  have g := hc.putWord (b * 64 + n) (by show _ < (eraseTo c.ws b n (mPick c)).length; rw [eraseTo_length]; exact hi) (partB (wd c.ws (b * 64 + n)) ones (turnB (mPick c) (n : Int)))
  have e : ({ eraseState c b n with ws := (eraseState c b n).ws.set (b * 64 + n) (partB (wd c.ws (b * 64 + n)) ones (turnB (mPick c) (n : Int))) } : ChipM) = eraseState c b (n + 1) := by
    unfold eraseState
    rw [← eraseTo_step]
  rw [e] at g
  exact g
theorem ChipAt.eraseWord {w : World} {h : Hd} {c : ChipM} {b n : Nat} (hc : ChipAt w h (eraseState c b n)) (hi : b * 64 + n < c.ws.length) :
    w.cell? ⟨h.bw, b * 64 + n, none⟩ = some (.int .u32 (U (wd c.ws (b * 64 + n)))) := by
  have g := hc.word (b * 64 + n) (by show _ < (eraseTo c.ws b n (mPick c)).length; rw [eraseTo_length]; exact hi)
  have e : wd (eraseState c b n).ws (b * 64 + n) = wd c.ws (b * 64 + n) := by
    show wd (eraseTo c.ws b n (mPick c)) (b * 64 + n) = _
    rw [eraseTo_get _ _ _ _ _ hi, if_neg (by omega)]
  rw [e] at g
  exact g

set_option maxRecDepth 100000 in
set_option maxHeartbeats 1000000 in
theorem erase_yes (h : Hd) (c : ChipM) (k : Nat) (b : Nat) (w : World) (hc : ChipAt w h c) (ok : ChipOk k c) (hb : b < c.wear.length) (hr : mRefuse c b c.wear.length = 0) (hw : nm c.wear b < c.endure) :
    Calls Try.prog 93 #[.pointer (some ⟨h.p, 0, none⟩), .int .i64 b] w fun e w' => e = .returned (.int .i64 (mErr c)) ∧ ChipAt w' h (mEraseDo c b) ∧ Turned h.own w w' := by
  have k2 := ok.k2
  have kw := ok.wears
  have l0 := ok.l0
  have l1 := ok.l1
  have e0 := ok.w0 b
  have e1 := ok.e1
  have kws := ok.words
  have k3 : 1 ≤ c.wear.length := by omega
  have k4 : c.wear.length ≤ 64 := by omega
  have k5 : b * 64 + 64 ≤ c.ws.length := by omega
  have g1 := hc.own.cell 1
  have g2 := hc.own.cell 2
  simp only [chipCells, List.getElem?_cons_zero, List.getElem?_cons_succ] at g1 g2
  have gb := hc.worn b hb
  have hd : decide (c.endure ≤ nm c.wear b) = false := by rw [decide_eq_false_iff_not]; omega
  clear kw kws
  go_enter Try.func93, Try.ntmps93
  go_wp2_with (first
    | (go_at_call 49; with_reducible refine (blocks_any _ _ _ hc).mono ?_; rintro e w' ⟨rfl, rfl⟩)
    | (go_at_call 88; with_reducible refine (refuse_any _ _ _ _ _ hc k3).mono ?_; rintro e w' ⟨rfl, rfl⟩))
  go_quiet (fail)
  have hcq := hc.drewN nq
  go_wp2_with (
    (go_at_call 98
     with_reducible refine (change_any _ _ _ hcq l0 l1).mono ?_
     rintro e w1 ⟨rfl, hc1, ht1⟩
     have g10 := hc1.own.cell 0
     have g11 := hc1.own.cell 1
     simp only [chipCells, List.getElem?_cons_zero, List.getElem?_cons_succ, mChange_ws, mChange_wear] at g10 g11
     have g1b := hc1.worn b (by rw [mChange_wear]; exact hb)
     rw [mChange_wear] at g1b
     have f1b := hc1.wear.frozen b
     have room := hc1.room
     rw [mChange_ws] at room
     have cap := hc1.cap
     have pbe := hc1.pbe
     have ne1 : (⟨h.be, b, none⟩ : Addr) ≠ ⟨h.p, 0, none⟩ := by intro e; injection e; omega))
  have hc2 : ChipAt (w1.setCell ⟨h.be, b, none⟩ (.int .i64 (nm c.wear b + 1))) h (eraseState c b 0) := by
    have g := hc1.putWear b (nm c.wear b + 1)
    unfold eraseState
    rw [eraseTo_zero]
    rw [mChange_wear] at g
    have e : mChange c = { mChange c with ws := c.ws } := by rw [← mChange_ws c]
    rw [e] at g
    exact g
  have ht2 : Turned h.own w' (w1.setCell ⟨h.be, b, none⟩ (.int .i64 (nm c.wear b + 1))) :=
    (((Turned.refl h.own w').drewN nq).trans (ht1.mono fun _ _ h => .inl h)).setCell (p := ⟨h.be, b, none⟩) (fun _ => .inr (.inr rfl)) _
  clear g1 g2 gb g10 g11 g1b f1b hc1 ht1 hcq hc ne1
  go_loopw [55] (fun i wr => ∃ n : Nat, n ≤ 64 ∧ i = .int .i64 n ∧ ChipAt wr h (eraseState c b n) ∧ Turned h.own w' wr) (fun i _ => 64 - (intOf i).toNat)
  case atStart => exact ⟨0, by omega, rfl, hc2, ht2⟩
  case round =>
    clear hc2 ht2
    obtain ⟨n, hn, rfl, hcr, htr⟩ := hrel
    by_cases hlt : n < 64
    · have gi := hcr.eraseWord (by omega)
      have fi := hcr.words.frozen (b * 64 + n)
      have HC := Lib.hid hcr
      clear hcr
      go_wp2_with (first
        | (go_at_call 100; with_reducible refine (turn_any _ _ _).mono ?_; rintro e w2 ⟨rfl, nt, rfl⟩)
        | (go_at_call 99; with_reducible refine (partial_ones _ _ _).mono ?_; rintro e w2 ⟨rfl, rfl⟩))
      go_roundw
      case rel => exact ⟨n + 1, by omega, by go_num, (HC.out.drewN nt).eraseStep (by omega), (htr.drewN nt).setCell (p := ⟨h.bw, b * 64 + n, none⟩) (fun _ => .inr (.inl rfl)) _⟩
      case measure => simp [intOf]; omega
    · obtain rfl : n = 64 := by omega
      go_wp2
      go_ret
      exact ⟨rfl, hcr, htr⟩
end Go.Proofs.Ytfckgfimmoinmaa
