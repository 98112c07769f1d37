/- Contracts of package nor: a chip that lies in memory as the plain one says answers each call as the plain one does, and lies there so behind it. -/
import Derived.Test.YtfckgfimmoinmaaRows
import Derived.Test.YtfckgfimmoinmaaBits
import Derived.Test.YtfckgfimmoinmaaMem
import Derived.Test.YtfckgfimmoinmaaNorMath
import Derived.Deep.QuietTactic
import Derived.BigQuiet
import Derived.Deep.RegionHeld3
import Derived.StillTailTactics
import Derived.Lib.Hide
namespace Go.Proofs.Ytfckgfimmoinmaa
open Go.RowKit Bm

/-- Where a chip lies: its own block, that of its words (with their capacity, and what lies behind them), that of its wear. -/
structure Hd where
  p : Nat
  bw : Nat
  be : Nat
  cw : Nat
  rest : List Value

def Hd.own (h : Hd) (i : Nat) : Prop := i = h.p ∨ i = h.bw ∨ i = h.be
def Just (b i : Nat) : Prop := i = b

def chipCells (h : Hd) (c : ChipM) : List Value :=
  [.slice (some ⟨h.bw, 0, none⟩) c.ws.length h.cw, .slice (some ⟨h.be, 0, none⟩) c.wear.length c.wear.length, .int .i64 c.endure, .bool c.up, .int .i64 c.left, .int .u32 (U c.pick)]

structure ChipAt (w : World) (h : Hd) (c : ChipM) : Prop where
  own : At w h.p 90 (chipCells h c)
  words : At w h.bw 33 (Us c.ws ++ h.rest)
  wear : At w h.be 3 (Is c.wear)
  room : c.ws.length ≤ h.cw
  cap : h.cw ≤ maxLen

theorem ChipAt.kept {w w' : World} {h : Hd} {c : ChipM} (hc : ChipAt w h c) {S : Nat → Prop} (k : Turned S w w') (hS : ∀ i, h.own i → ¬ S i) : ChipAt w' h c :=
  ⟨hc.own.kept k (hS _ (.inl rfl)), hc.words.kept k (hS _ (.inr (.inl rfl))), hc.wear.kept k (hS _ (.inr (.inr rfl))), hc.room, hc.cap⟩
theorem ChipAt.drewN {w : World} {h : Hd} {c : ChipM} (hc : ChipAt w h c) (n : Nat) : ChipAt (w.drewN n) h c := ⟨hc.own, hc.words, hc.wear, hc.room, hc.cap⟩
theorem ChipAt.pbw {w : World} {h : Hd} {c : ChipM} (hc : ChipAt w h c) : h.p ≠ h.bw := hc.own.ne hc.words (by decide)
theorem ChipAt.pbe {w : World} {h : Hd} {c : ChipM} (hc : ChipAt w h c) : h.p ≠ h.be := hc.own.ne hc.wear (by decide)
theorem ChipAt.bwbe {w : World} {h : Hd} {c : ChipM} (hc : ChipAt w h c) : h.bw ≠ h.be := hc.words.ne hc.wear (by decide)

theorem blocks_any (h : Hd) (c : ChipM) (w : World) (hc : ChipAt w h c) :
    Calls Try.prog 49 #[.pointer (some ⟨h.p, 0, none⟩)] w fun e w' => e = .returned (.int .i64 c.wear.length) ∧ w' = w := by
  have g := hc.own.cell 1
  simp only [chipCells, List.getElem?_cons_succ, List.getElem?_cons_zero] at g
  clear hc
  go_enter Try.func49, Try.ntmps49
  go_wp2
  go_ret
  exact ⟨rfl, rfl⟩

theorem up_any (h : Hd) (c : ChipM) (w : World) (hc : ChipAt w h c) :
    Calls Try.prog 33 #[.pointer (some ⟨h.p, 0, none⟩)] w fun e w' => e = .returned (.bool c.up) ∧ w' = w := by
  have g := hc.own.cell 3
  simp only [chipCells, List.getElem?_cons_succ, List.getElem?_cons_zero] at g
  clear hc
  go_enter Try.func33, Try.ntmps33
  go_wp2
  go_ret
  exact ⟨rfl, rfl⟩

theorem refuse_any (h : Hd) (c : ChipM) (n m : Int) (w : World) (hc : ChipAt w h c) (h1 : 1 ≤ c.wear.length) :
    Calls Try.prog 88 #[.pointer (some ⟨h.p, 0, none⟩), .int .i64 n, .int .i64 m] w fun e w' => e = .returned (.int .i64 (mRefuse c n m)) ∧ w' = w := by
  have g := hc.own.cell 3
  simp only [chipCells, List.getElem?_cons_succ, List.getElem?_cons_zero] at g
  have z : ((c.wear.length : Int) == 0) = false := by rw [beq_eq_false_iff_ne]; omega
  unfold mRefuse
  cases hu : c.up
  · rw [hu] at g
    clear hu
    go_enter Try.func88, Try.ntmps88
    go_wp2_with (go_at_call 49; with_reducible refine (blocks_any _ _ _ hc).mono ?_; rintro e w' ⟨rfl, rfl⟩)
    go_ret
    exact ⟨rfl, rfl⟩
  · rw [hu] at g
    clear hu
    by_cases hn : n < 0
    · go_enter Try.func88, Try.ntmps88
      go_wp2_with (go_at_call 49; with_reducible refine (blocks_any _ _ _ hc).mono ?_; rintro e w' ⟨rfl, rfl⟩)
      go_ret
      exact ⟨by simp, rfl⟩
    · by_cases hm : m ≤ n
      · go_enter Try.func88, Try.ntmps88
        go_wp2_with (go_at_call 49; with_reducible refine (blocks_any _ _ _ hc).mono ?_; rintro e w' ⟨rfl, rfl⟩)
        go_ret
        exact ⟨by simp, rfl⟩
      · go_enter Try.func88, Try.ntmps88
        go_wp2_with (go_at_call 49; with_reducible refine (blocks_any _ _ _ hc).mono ?_; rintro e w' ⟨rfl, rfl⟩)
        go_ret
        exact ⟨by simp, rfl⟩

theorem ret2_u {a b : Int} {x y : Int} (h : a = b) (k : x = y) : Ending.returned (.tuple #[.int .u32 a, .int .i64 x]) = Ending.returned (.tuple #[.int .u32 b, .int .i64 y]) := by rw [h, k]

theorem ChipAt.putLeft {w : World} {h : Hd} {c : ChipM} (hc : ChipAt w h c) (n : Int) : ChipAt (w.setCell ⟨h.p, 4, none⟩ (.int .i64 n)) h { c with left := n } :=
  ⟨(hc.own.put 4 _).as rfl, hc.words.far (p := ⟨h.p, 4, none⟩) (Ne.symm hc.pbw) _, hc.wear.far (p := ⟨h.p, 4, none⟩) (Ne.symm hc.pbe) _, hc.room, hc.cap⟩
theorem ChipAt.putUp {w : World} {h : Hd} {c : ChipM} (hc : ChipAt w h c) (b : Bool) : ChipAt (w.setCell ⟨h.p, 3, none⟩ (.bool b)) h { c with up := b } :=
  ⟨(hc.own.put 3 _).as rfl, hc.words.far (p := ⟨h.p, 3, none⟩) (Ne.symm hc.pbw) _, hc.wear.far (p := ⟨h.p, 3, none⟩) (Ne.symm hc.pbe) _, hc.room, hc.cap⟩
theorem ChipAt.putPick {w : World} {h : Hd} {c : ChipM} (hc : ChipAt w h c) (x : BitVec 32) : ChipAt (w.setCell ⟨h.p, 5, none⟩ (.int .u32 (U x))) h { c with pick := x } :=
  ⟨(hc.own.put 5 _).as rfl, hc.words.far (p := ⟨h.p, 5, none⟩) (Ne.symm hc.pbw) _, hc.wear.far (p := ⟨h.p, 5, none⟩) (Ne.symm hc.pbe) _, hc.room, hc.cap⟩
theorem ChipAt.putWord {w : World} {h : Hd} {c : ChipM} (hc : ChipAt w h c) (i : Nat) (hi : i < c.ws.length) (x : BitVec 32) : ChipAt (w.setCell ⟨h.bw, i, none⟩ (.int .u32 (U x))) h { c with ws := c.ws.set i x } :=
  ⟨(hc.own.far (p := ⟨h.bw, i, none⟩) hc.pbw _).as (by simp [chipCells]), (hc.words.put i _).as (by rw [List.set_append_left _ _ (by rw [Us_length]; exact hi), Us_set]), hc.wear.far (p := ⟨h.bw, i, none⟩) (Ne.symm hc.bwbe) _, by simpa using hc.room, hc.cap⟩
theorem ChipAt.putWear {w : World} {h : Hd} {c : ChipM} (hc : ChipAt w h c) (i : Nat) (x : Int) : ChipAt (w.setCell ⟨h.be, i, none⟩ (.int .i64 x)) h { c with wear := c.wear.set i x } :=
  ⟨(hc.own.far (p := ⟨h.be, i, none⟩) hc.pbe _).as (by simp [chipCells]), hc.words.far (p := ⟨h.be, i, none⟩) hc.bwbe _, (hc.wear.put i _).as (Is_set _ _ _), hc.room, hc.cap⟩
theorem ChipAt.word {w : World} {h : Hd} {c : ChipM} (hc : ChipAt w h c) (i : Nat) (hi : i < c.ws.length) : w.cell? ⟨h.bw, i, none⟩ = some (.int .u32 (U (wd c.ws i))) := by
  rw [hc.words.cell, List.getElem?_append_left (by rw [Us_length]; exact hi), Us_get _ _ hi]
theorem ChipAt.worn {w : World} {h : Hd} {c : ChipM} (hc : ChipAt w h c) (i : Nat) (hi : i < c.wear.length) : w.cell? ⟨h.be, i, none⟩ = some (.int .i64 (nm c.wear i)) := by
  rw [hc.wear.cell, Is_get _ _ hi]

theorem change_any (h : Hd) (c : ChipM) (w : World) (hc : ChipAt w h c) (l0 : 0 ≤ c.left) (l1 : c.left ≤ 9223372036854775807) :
    Calls Try.prog 98 #[.pointer (some ⟨h.p, 0, none⟩)] w fun e w' => e = .returned (.tuple #[.int .u32 (U (mPick c)), .int .i64 (mErr c)]) ∧ ChipAt w' h (mChange c) ∧ Turned (Just h.p) w w' := by
  have g3 := hc.own.cell 3
  have g4 := hc.own.cell 4
  have g5 := hc.own.cell 5
  have f3 := hc.own.frozen 3
  have f4 := hc.own.frozen 4
  simp only [chipCells, List.getElem?_cons_succ, List.getElem?_cons_zero] at g3 g4 g5
  have HC := Lib.hid hc
  clear hc
  by_cases h0 : c.left = 0
  · rw [h0] at g4
    have z := Lib.hid h0
    clear h0
    go_enter Try.func98, Try.ntmps98
    go_wp2
    go_ret2
    have h0 : c.left = 0 := z.out
    exact ⟨ret2_u (by rw [mPick, if_neg (by omega)]; rfl) (by rw [mErr, if_neg (by omega)]), by rw [mChange, if_pos h0]; exact HC.out, Turned.refl _ _⟩
  · have q : (c.left == 0) = false := by rw [beq_eq_false_iff_ne]; exact h0
    by_cases h1 : c.left = 1
    · rw [h1] at g4
      have z := Lib.hid h1
      clear h0 q h1
      go_enter Try.func98, Try.ntmps98
      go_wp2
      go_ret2
      have h1 : c.left = 1 := z.out
      refine ⟨ret2_u (by rw [mPick, if_pos h1]) (by rw [mErr, if_pos h1]), ?_, ?_⟩
      · rw [mChange, if_neg (by omega), if_pos h1]
        exact (HC.out.putLeft _).putUp _
      · exact ((Turned.refl (Just h.p) w).setCell (p := ⟨h.p, 4, none⟩) (fun _ => rfl) _).setCell (p := ⟨h.p, 3, none⟩) (fun _ => rfl) _
    · have l2 : 0 < c.left - 1 := by omega
      clear h1
      go_enter Try.func98, Try.ntmps98
      go_wp2
      go_ret2
      refine ⟨ret2_u (by rw [mPick, if_neg (by omega)]; rfl) (by rw [mErr, if_neg (by omega)]), ?_, ?_⟩
      · rw [mChange, if_neg (by omega), if_neg (by omega)]
        exact HC.out.putLeft _
      · exact (Turned.refl (Just h.p) w).setCell (p := ⟨h.p, 4, none⟩) (fun _ => rfl) _

theorem read_no (h : Hd) (c : ChipM) (k : Nat) (a : Int) (w : World) (hc : ChipAt w h c) (ok : ChipOk k c) (hr : mRefuse c a c.ws.length ≠ 0) :
    Calls Try.prog 73 #[.pointer (some ⟨h.p, 0, none⟩), .int .i64 a] w fun e w' => e = .returned (.tuple #[.int .u32 0, .int .i64 (mRefuse c a c.ws.length)]) ∧ w' = w := by
  have k1 := ok.k1
  have k2 := ok.k2
  have kw := ok.wears
  have hl := ok.words
  have e : wrap64 ((c.wear.length : Int) * 64) = (c.ws.length : Int) := by unfold wrap64; omega
  have q : (mRefuse c a c.ws.length == 0) = false := by rw [beq_eq_false_iff_ne]; exact hr
  have q' : (mRefuse c a c.ws.length != 0) = true := by rw [bne_iff_ne]; exact hr
  have k3 : 1 ≤ c.wear.length := by omega
  clear hr kw hl k1
  go_enter Try.func73, Try.ntmps73
  go_wp2_with (first
    | (go_at_call 49; with_reducible refine (blocks_any _ _ _ hc).mono ?_; rintro e w' ⟨rfl, rfl⟩)
    | (go_at_call 88; with_reducible refine (refuse_any _ _ _ _ _ hc k3).mono ?_; rintro e w' ⟨rfl, rfl⟩))
  go_ret2
  exact ⟨rfl, rfl⟩

theorem read_yes (h : Hd) (c : ChipM) (k : Nat) (i : Nat) (w : World) (hc : ChipAt w h c) (ok : ChipOk k c) (hi : i < c.ws.length) (hr : mRefuse c i c.ws.length = 0) :
    Calls Try.prog 73 #[.pointer (some ⟨h.p, 0, none⟩), .int .i64 i] w fun e w' => e = .returned (.tuple #[.int .u32 (U (wd c.ws i)), .int .i64 0]) ∧ w' = w := by
  have k1 := ok.k1
  have k2 := ok.k2
  have kw := ok.wears
  have hl := ok.words
  have e : wrap64 ((c.wear.length : Int) * 64) = (c.ws.length : Int) := by unfold wrap64; omega
  have k3 : 1 ≤ c.wear.length := by omega
  have g0 := hc.own.cell 0
  simp only [chipCells, List.getElem?_cons_zero] at g0
  have gi := hc.word i hi
  have room := hc.room
  have cap := hc.cap
  clear kw hl k1
  go_enter Try.func73, Try.ntmps73
  go_wp2_with (first
    | (go_at_call 49; with_reducible refine (blocks_any _ _ _ hc).mono ?_; rintro e w' ⟨rfl, rfl⟩)
    | (go_at_call 88; with_reducible refine (refuse_any _ _ _ _ _ hc k3).mono ?_; rintro e w' ⟨rfl, rfl⟩))
  go_ret2
  exact ⟨rfl, rfl⟩

theorem program_no (h : Hd) (c : ChipM) (k : Nat) (a : Int) (v : BitVec 32) (w : World) (hc : ChipAt w h c) (ok : ChipOk k c) (hr : mRefuse c a c.ws.length ≠ 0) :
    Calls Try.prog 91 #[.pointer (some ⟨h.p, 0, none⟩), .int .i64 a, .int .u32 (U v)] w fun e w' => e = .returned (.int .i64 (mRefuse c a c.ws.length)) ∧ w' = w := by
  have k1 := ok.k1
  have k2 := ok.k2
  have kw := ok.wears
  have hl := ok.words
  have e : wrap64 ((c.wear.length : Int) * 64) = (c.ws.length : Int) := by unfold wrap64; omega
  have q : (mRefuse c a c.ws.length == 0) = false := by rw [beq_eq_false_iff_ne]; exact hr
  have q' : (mRefuse c a c.ws.length != 0) = true := by rw [bne_iff_ne]; exact hr
  have k3 : 1 ≤ c.wear.length := by omega
  clear hr kw hl k1
  go_enter Try.func91, Try.ntmps91
  go_wp2_with (first
    | (go_at_call 49; with_reducible refine (blocks_any _ _ _ hc).mono ?_; rintro e w' ⟨rfl, rfl⟩)
    | (go_at_call 88; with_reducible refine (refuse_any _ _ _ _ _ hc k3).mono ?_; rintro e w' ⟨rfl, rfl⟩))
  go_ret
  exact ⟨rfl, rfl⟩

set_option maxRecDepth 100000 in
theorem program_yes (h : Hd) (c : ChipM) (k : Nat) (i : Nat) (v : BitVec 32) (w : World) (hc : ChipAt w h c) (ok : ChipOk k c) (hi : i < c.ws.length) (hr : mRefuse c i c.ws.length = 0) :
    Calls Try.prog 91 #[.pointer (some ⟨h.p, 0, none⟩), .int .i64 i, .int .u32 (U v)] w fun e w' => e = .returned (.int .i64 (mErr c)) ∧ ChipAt w' h (mProgramDo c i v) ∧ Turned h.own w w' := by
  have k1 := ok.k1
  have k2 := ok.k2
  have kw := ok.wears
  have hl := ok.words
  have l0 := ok.l0
  have l1 := ok.l1
  have e : wrap64 ((c.wear.length : Int) * 64) = (c.ws.length : Int) := by unfold wrap64; omega
  have k3 : 1 ≤ c.wear.length := by omega
  have room := hc.room
  have cap := hc.cap
  clear kw hl k1
  go_enter Try.func91, Try.ntmps91
  go_wp2_with (first
    | (go_at_call 49; with_reducible refine (blocks_any _ _ _ hc).mono ?_; rintro e w' ⟨rfl, rfl⟩)
    | (go_at_call 88; with_reducible refine (refuse_any _ _ _ _ _ hc k3).mono ?_; rintro e w' ⟨rfl, rfl⟩)
    | (go_at_call 98; with_reducible refine (change_any _ _ _ hc l0 l1).mono ?_; rintro e w1 ⟨rfl, hc1, ht1⟩))
  have g0 := hc1.own.cell 0
  simp only [chipCells, List.getElem?_cons_zero, mChange_ws] at g0
  have gi := hc1.word i (by rw [mChange_ws]; exact hi)
  rw [mChange_ws] at gi
  have f0 := hc1.words.frozen i
  refine wp_region_still_tail 24 (by kernel_rfl) (by kernel_rfl) ?_
  simp only [List.take_succ_cons, List.take_zero, List.drop_succ_cons, List.drop_zero]
  change wpStill _ _ w1.drew _ _ _
  repeat still_step
  still_call (partial_any _ _ _ _)
  repeat still_step
  refine wpStill_nil ?_
  change wpList _ _ _ _ _ w1.drew
  go_wp2
  go_ret
  refine ⟨rfl, ?_, ?_⟩
  · have := (hc1.drewN 1).putWord i (by rw [mChange_ws]; exact hi) (partB (wd c.ws i) (wd c.ws i &&& v) (mPick c))
    rw [mChange_ws] at this
    exact this
  · exact ((ht1.mono (S' := h.own) fun _ _ h => .inl h).drew).setCell (p := ⟨h.bw, i, none⟩) (fun _ => .inr (.inl rfl)) _
end Go.Proofs.Ytfckgfimmoinmaa
