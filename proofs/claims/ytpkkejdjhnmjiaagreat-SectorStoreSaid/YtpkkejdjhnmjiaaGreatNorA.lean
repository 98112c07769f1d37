/- A chip as plain data, and what becomes of it by each call (chapter 2 of the document). | Contracts of package nor: a chip that lies in memory as the plain one says answers each call as the plain one does, and lies there so behind it. | The contract of nor's Erase. -/
import Derived.Test.YtpkkejdjhnmjiaaGreatBitsMem
import Derived.Test.YtpkkejdjhnmjiaaGreatRows
import Derived.Deep.QuietTactic
import Derived.BigQuiet
import Derived.Deep.RegionHeld3
import Derived.StillTailTactics
import Derived.Lib.Hide
namespace Go.Proofs.YtpkkejdjhnmjiaaGreat
open Bm
def ones : BitVec 32 := 4294967295#32
structure ChipM where
  ws : List (BitVec 32)
  wear : List Int
  endure : Int
  up : Bool
  left : Int
  pick : BitVec 32
structure ChipOk (k : Nat) (c : ChipM) : Prop where
  k1 : 1 ≤ k
  k2 : k ≤ 64
  words : c.ws.length = k * 64
  wears : c.wear.length = k
  e0 : 0 ≤ c.endure
  e1 : c.endure ≤ 9223372036854775807
  l0 : 0 ≤ c.left
  l1 : c.left ≤ 9223372036854775807
  w0 : ∀ i, 0 ≤ nm c.wear i
  w1 : ∀ i, nm c.wear i ≤ c.endure
def mRefuse (c : ChipM) (n many : Int) : Int := if c.up = false then 4 else if n < 0 ∨ many ≤ n then 3 else 0
def mPick (c : ChipM) : BitVec 32 := if c.left = 1 then c.pick else ones
def mErr (c : ChipM) : Int := if c.left = 1 then 4 else 0
def mChange (c : ChipM) : ChipM := if c.left = 0 then c else if c.left = 1 then { c with left := 0, up := false } else { c with left := c.left - 1 }
def mRead (c : ChipM) (at_ : Int) : BitVec 32 × Int := if mRefuse c at_ c.ws.length = 0 then (wd c.ws at_.toNat, 0) else (0#32, mRefuse c at_ c.ws.length)
def mProgramDo (c : ChipM) (i : Nat) (v : BitVec 32) : ChipM :=
  { mChange c with ws := c.ws.set i (partB (wd c.ws i) (wd c.ws i &&& v) (mPick c)) }
def eraseTo (ws : List (BitVec 32)) (b n : Nat) (pick : BitVec 32) : List (BitVec 32) :=
  ws.mapIdx fun i x => if b * 64 ≤ i ∧ i < b * 64 + n then partB x ones (turnB pick ((i - b * 64 : Nat) : Int)) else x
def mEraseDo (c : ChipM) (b : Nat) : ChipM :=
  { mChange c with wear := c.wear.set b (nm c.wear b + 1), ws := eraseTo c.ws b 64 (mPick c) }
def mProgram (c : ChipM) (at_ : Int) (v : BitVec 32) : ChipM × Int :=
  if mRefuse c at_ c.ws.length = 0 then (mProgramDo c at_.toNat v, mErr c) else (c, mRefuse c at_ c.ws.length)
def mErase (c : ChipM) (b : Int) : ChipM × Int :=
  if mRefuse c b c.wear.length = 0 then (if c.endure ≤ nm c.wear b.toNat then (c, 5) else (mEraseDo c b.toNat, mErr c)) else (c, mRefuse c b c.wear.length)
def mCut (c : ChipM) : ChipM := { c with up := false }
def mOn (c : ChipM) : ChipM := { c with up := true, left := 0 }
def mWear (c : ChipM) (b : Int) : Int := if b < 0 then 0 else nm c.wear b.toNat
def mOf (ws : List (BitVec 32)) (k : Nat) (endure : Int) : ChipM := ⟨ws, List.replicate k 0, endure, true, 0, 0#32⟩
def mNew (k : Nat) (endure : Int) : ChipM := mOf (List.replicate (k * 64) ones) k endure
theorem eraseTo_zero (ws : List (BitVec 32)) (b : Nat) (p : BitVec 32) : eraseTo ws b 0 p = ws := by
  unfold eraseTo
  apply List.ext_getElem?
  intro i
  rw [List.getElem?_mapIdx]
  cases ws[i]? with
  | none => rfl
  | some x => simp; omega
theorem eraseTo_length (ws : List (BitVec 32)) (b n : Nat) (p : BitVec 32) : (eraseTo ws b n p).length = ws.length := by simp [eraseTo]
theorem eraseTo_get (ws : List (BitVec 32)) (b n : Nat) (p : BitVec 32) (i : Nat) (h : i < ws.length) :
    wd (eraseTo ws b n p) i = if b * 64 ≤ i ∧ i < b * 64 + n then partB (wd ws i) ones (turnB p ((i - b * 64 : Nat) : Int)) else wd ws i := by
  unfold eraseTo wd
  simp [List.getD, h]
theorem eraseTo_step (ws : List (BitVec 32)) (b n : Nat) (p : BitVec 32) :
    (eraseTo ws b n p).set (b * 64 + n) (partB (wd ws (b * 64 + n)) ones (turnB p (n : Int))) = eraseTo ws b (n + 1) p := by
  apply List.ext_getElem?
  intro i
  rw [List.getElem?_set, eraseTo_length]
  unfold eraseTo
  rw [List.getElem?_mapIdx, List.getElem?_mapIdx]
  by_cases h : b * 64 + n = i
  · subst h
    rw [if_pos rfl]
    by_cases hl : b * 64 + n < ws.length
    · rw [if_pos hl]
      simp only [List.getElem?_eq_getElem hl, Option.map_some, wd, List.getD, Option.getD_some]
      rw [if_pos (by omega), show b * 64 + n - b * 64 = n by omega]
    · rw [if_neg hl, List.getElem?_eq_none (by omega)]; rfl
  · rw [if_neg h]
    cases ws[i]? with
    | none => rfl
    | some x =>
      simp only [Option.map_some]
      congr 1
      by_cases h1 : b * 64 ≤ i ∧ i < b * 64 + n
      · rw [if_pos h1, if_pos (by omega)]
      · rw [if_neg h1, if_neg (by omega)]
theorem nm_set_self (l : List Int) (i : Nat) (x : Int) (h : i < l.length) : nm (l.set i x) i = x := by
  simp [nm, List.getD, h]
theorem nm_set_other (l : List Int) (i j : Nat) (x : Int) (h : i ≠ j) : nm (l.set i x) j = nm l j := by
  simp [nm, List.getD, h]
theorem nm_zeros (k i : Nat) : nm (List.replicate k (0 : Int)) i = 0 := by
  simp only [nm, List.getD, List.getElem?_replicate]
  split <;> rfl
section
variable {k : Nat} {c : ChipM}
theorem ChipOk.change (h : ChipOk k c) : ChipOk k (mChange c) := by
  have a := h.l0
  have b := h.l1
  unfold mChange
  split
  · exact h
  · split
    · exact ⟨h.k1, h.k2, h.words, h.wears, h.e0, h.e1, by simp, by simp, h.w0, h.w1⟩
    · exact ⟨h.k1, h.k2, h.words, h.wears, h.e0, h.e1, by simp; omega, by simp; omega, h.w0, h.w1⟩
theorem mChange_ws (c : ChipM) : (mChange c).ws = c.ws := by unfold mChange; split <;> (try split) <;> rfl
theorem mChange_wear (c : ChipM) : (mChange c).wear = c.wear := by unfold mChange; split <;> (try split) <;> rfl
theorem mChange_endure (c : ChipM) : (mChange c).endure = c.endure := by unfold mChange; split <;> (try split) <;> rfl
theorem ChipOk.programDo (h : ChipOk k c) (i : Nat) (v : BitVec 32) : ChipOk k (mProgramDo c i v) := by
  have g := h.change
  exact ⟨g.k1, g.k2, by rw [mProgramDo, List.length_set]; exact h.words, g.wears, g.e0, g.e1, g.l0, g.l1, g.w0, g.w1⟩
theorem ChipOk.eraseDo (h : ChipOk k c) (b : Nat) (hb : b < k) (hw : nm c.wear b < c.endure) : ChipOk k (mEraseDo c b) := by
  have g := h.change
  have e := mChange_endure c
  refine ⟨g.k1, g.k2, by rw [mEraseDo, eraseTo_length]; exact h.words, by rw [mEraseDo, List.length_set]; exact h.wears, g.e0, g.e1, g.l0, g.l1, ?_, ?_⟩
  · intro i
    by_cases hi : b = i
    · subst hi
      simp only [mEraseDo]
      rw [nm_set_self _ _ _ (by rw [h.wears]; exact hb)]
      have := h.w0 b
      omega
    · simp only [mEraseDo]
      rw [nm_set_other _ _ _ _ hi]
      exact h.w0 i
  · intro i
    simp only [mEraseDo, e]
    by_cases hi : b = i
    · subst hi
      rw [nm_set_self _ _ _ (by rw [h.wears]; exact hb)]
      omega
    · rw [nm_set_other _ _ _ _ hi]
      exact h.w1 i
theorem ChipOk.cut (h : ChipOk k c) : ChipOk k (mCut c) := ⟨h.k1, h.k2, h.words, h.wears, h.e0, h.e1, h.l0, h.l1, h.w0, h.w1⟩
theorem ChipOk.on (h : ChipOk k c) : ChipOk k (mOn c) := ⟨h.k1, h.k2, h.words, h.wears, h.e0, h.e1, by simp [mOn], by simp [mOn], h.w0, h.w1⟩
theorem ChipOk.of (ws : List (BitVec 32)) (k : Nat) (endure : Int) (h1 : 1 ≤ k) (h2 : k ≤ 64) (hw : ws.length = k * 64) (e0 : 0 ≤ endure) (e1 : endure ≤ 9223372036854775807) : ChipOk k (mOf ws k endure) := by
  exact ⟨h1, h2, hw, by simp [mOf], e0, e1, by simp [mOf], by simp [mOf], by intro i; simp only [mOf, nm_zeros]; omega, by intro i; simp only [mOf, nm_zeros]; exact e0⟩
end
theorem refuse_zero {c : ChipM} {n m : Int} (h : mRefuse c n m = 0) : c.up = true ∧ 0 ≤ n ∧ n < m := by
  unfold mRefuse at h
  split at h
  · omega
  · rename_i hu
    split at h
    · omega
    · exact ⟨by simpa using hu, by omega, by omega⟩
theorem ChipOk.program {k : Nat} {c : ChipM} (ok : ChipOk k c) (a : Int) (v : BitVec 32) : ChipOk k (mProgram c a v).1 := by
  unfold mProgram
  split
  · exact ok.programDo _ _
  · exact ok
theorem ChipOk.erase {k : Nat} {c : ChipM} (ok : ChipOk k c) (b : Int) : ChipOk k (mErase c b).1 := by
  unfold mErase
  split
  · rename_i hr
    obtain ⟨_, h1, h2⟩ := refuse_zero hr
    split
    · exact ok
    · exact ok.eraseDo _ (by have := ok.wears; omega) (by omega)
  · exact ok
end Go.Proofs.YtpkkejdjhnmjiaaGreat
namespace Go.Proofs.YtpkkejdjhnmjiaaGreat
open Go.RowKit Bm
structure Hd where
  p : Nat
  bw : Nat
  be : Nat
  cw : Nat
  rest : List Value
def Hd.own (h : Hd) (i : Nat) : Prop := i = h.p ∨ i = h.bw ∨ i = h.be
def chipCells (h : Hd) (c : ChipM) : List Value :=
  [.slice (some ⟨h.bw, 0, none⟩) c.ws.length h.cw, .slice (some ⟨h.be, 0, none⟩) c.wear.length c.wear.length, .int .i64 c.endure, .bool c.up, .int .i64 c.left, .int .u32 (U c.pick)]
structure ChipAt (w : World) (h : Hd) (c : ChipM) : Prop where
  own : At w h.p 112 (chipCells h c)
  words : At w h.bw 36 (Us c.ws ++ h.rest)
  wear : At w h.be 3 (Is c.wear)
  room : c.ws.length ≤ h.cw
  cap : h.cw ≤ maxLen
theorem ChipAt.kept {w w' : World} {h : Hd} {c : ChipM} (hc : ChipAt w h c) {S : Nat → Prop} (k : Turned S w w') (hS : ∀ i, h.own i → ¬ S i) : ChipAt w' h c :=
  ⟨hc.own.kept k (hS _ (.inl rfl)), hc.words.kept k (hS _ (.inr (.inl rfl))), hc.wear.kept k (hS _ (.inr (.inr rfl))), hc.room, hc.cap⟩
theorem ChipAt.drewN {w : World} {h : Hd} {c : ChipM} (hc : ChipAt w h c) (n : Nat) : ChipAt (w.drewN n) h c := ⟨hc.own, hc.words, hc.wear, hc.room, hc.cap⟩
theorem ChipAt.pbw {w : World} {h : Hd} {c : ChipM} (hc : ChipAt w h c) : h.p ≠ h.bw := hc.own.ne hc.words (by decide)
theorem ChipAt.pbe {w : World} {h : Hd} {c : ChipM} (hc : ChipAt w h c) : h.p ≠ h.be := hc.own.ne hc.wear (by decide)
theorem ChipAt.bwbe {w : World} {h : Hd} {c : ChipM} (hc : ChipAt w h c) : h.bw ≠ h.be := hc.words.ne hc.wear (by decide)
theorem blocks_any (h : Hd) (c : ChipM) (w : World) (hc : ChipAt w h c) :
    Calls Tryz.prog 30 #[.pointer (some ⟨h.p, 0, none⟩)] w fun e w' => e = .returned (.int .i64 c.wear.length) ∧ w' = w := by
  have g := hc.own.cell 1
  simp only [chipCells, List.getElem?_cons_succ, List.getElem?_cons_zero] at g
  clear hc
  go_enter Tryz.func30, Tryz.ntmps30
  go_wp2
  go_ret
  exact ⟨rfl, rfl⟩
theorem refuse_any (h : Hd) (c : ChipM) (n m : Int) (w : World) (hc : ChipAt w h c) (h1 : 1 ≤ c.wear.length) :
    Calls Tryz.prog 108 #[.pointer (some ⟨h.p, 0, none⟩), .int .i64 n, .int .i64 m] w fun e w' => e = .returned (.int .i64 (mRefuse c n m)) ∧ w' = w := by
  have g := hc.own.cell 3
  simp only [chipCells, List.getElem?_cons_succ, List.getElem?_cons_zero] at g
  have z : ((c.wear.length : Int) == 0) = false := by rw [beq_eq_false_iff_ne]; omega
  unfold mRefuse
  cases hu : c.up
  · rw [hu] at g
    clear hu
    go_enter Tryz.func108, Tryz.ntmps108
    go_wp2_with (go_at_call 30; with_reducible refine (blocks_any _ _ _ hc).mono ?_; rintro e w' ⟨rfl, rfl⟩)
    go_ret
    exact ⟨rfl, rfl⟩
  · rw [hu] at g
    clear hu
    by_cases hn : n < 0
    · go_enter Tryz.func108, Tryz.ntmps108
      go_wp2_with (go_at_call 30; with_reducible refine (blocks_any _ _ _ hc).mono ?_; rintro e w' ⟨rfl, rfl⟩)
      go_ret
      exact ⟨by simp, rfl⟩
    · by_cases hm : m ≤ n
      · go_enter Tryz.func108, Tryz.ntmps108
        go_wp2_with (go_at_call 30; with_reducible refine (blocks_any _ _ _ hc).mono ?_; rintro e w' ⟨rfl, rfl⟩)
        go_ret
        exact ⟨by simp, rfl⟩
      · go_enter Tryz.func108, Tryz.ntmps108
        go_wp2_with (go_at_call 30; with_reducible refine (blocks_any _ _ _ hc).mono ?_; rintro e w' ⟨rfl, rfl⟩)
        go_ret
        exact ⟨by simp, rfl⟩
theorem ret2_u {a b : Int} {x y : Int} (h : a = b) (k : x = y) : Ending.returned (.tuple #[.int .u32 a, .int .i64 x]) = Ending.returned (.tuple #[.int .u32 b, .int .i64 y]) := by rw [h, k]
theorem ChipAt.putLeft {w : World} {h : Hd} {c : ChipM} (hc : ChipAt w h c) (n : Int) : ChipAt (w.setCell ⟨h.p, 4, none⟩ (.int .i64 n)) h { c with left := n } :=
  ⟨(hc.own.put 4 _).as rfl, hc.words.far (p := ⟨h.p, 4, none⟩) (Ne.symm hc.pbw) _, hc.wear.far (p := ⟨h.p, 4, none⟩) (Ne.symm hc.pbe) _, hc.room, hc.cap⟩
theorem ChipAt.putUp {w : World} {h : Hd} {c : ChipM} (hc : ChipAt w h c) (b : Bool) : ChipAt (w.setCell ⟨h.p, 3, none⟩ (.bool b)) h { c with up := b } :=
  ⟨(hc.own.put 3 _).as rfl, hc.words.far (p := ⟨h.p, 3, none⟩) (Ne.symm hc.pbw) _, hc.wear.far (p := ⟨h.p, 3, none⟩) (Ne.symm hc.pbe) _, hc.room, hc.cap⟩
theorem ChipAt.putWord {w : World} {h : Hd} {c : ChipM} (hc : ChipAt w h c) (i : Nat) (hi : i < c.ws.length) (x : BitVec 32) : ChipAt (w.setCell ⟨h.bw, i, none⟩ (.int .u32 (U x))) h { c with ws := c.ws.set i x } :=
  ⟨(hc.own.far (p := ⟨h.bw, i, none⟩) hc.pbw _).as (by simp [chipCells]), (hc.words.put i _).as (by rw [List.set_append_left _ _ (by rw [Us_length]; exact hi), Us_set]), hc.wear.far (p := ⟨h.bw, i, none⟩) (Ne.symm hc.bwbe) _, by simpa using hc.room, hc.cap⟩
theorem ChipAt.putWear {w : World} {h : Hd} {c : ChipM} (hc : ChipAt w h c) (i : Nat) (x : Int) : ChipAt (w.setCell ⟨h.be, i, none⟩ (.int .i64 x)) h { c with wear := c.wear.set i x } :=
  ⟨(hc.own.far (p := ⟨h.be, i, none⟩) hc.pbe _).as (by simp [chipCells]), hc.words.far (p := ⟨h.be, i, none⟩) hc.bwbe _, (hc.wear.put i _).as (Is_set _ _ _), hc.room, hc.cap⟩
theorem ChipAt.word {w : World} {h : Hd} {c : ChipM} (hc : ChipAt w h c) (i : Nat) (hi : i < c.ws.length) : w.cell? ⟨h.bw, i, none⟩ = some (.int .u32 (U (wd c.ws i))) := by
  rw [hc.words.cell, List.getElem?_append_left (by rw [Us_length]; exact hi), Us_get _ _ hi]
theorem ChipAt.worn {w : World} {h : Hd} {c : ChipM} (hc : ChipAt w h c) (i : Nat) (hi : i < c.wear.length) : w.cell? ⟨h.be, i, none⟩ = some (.int .i64 (nm c.wear i)) := by
  rw [hc.wear.cell, Is_get _ _ hi]
theorem change_any (h : Hd) (c : ChipM) (w : World) (hc : ChipAt w h c) (l0 : 0 ≤ c.left) (l1 : c.left ≤ 9223372036854775807) :
    Calls Tryz.prog 118 #[.pointer (some ⟨h.p, 0, none⟩)] w fun e w' => e = .returned (.tuple #[.int .u32 (U (mPick c)), .int .i64 (mErr c)]) ∧ ChipAt w' h (mChange c) ∧ Turned (Just h.p) w w' := by
  have g3 := hc.own.cell 3
  have g4 := hc.own.cell 4
  have g5 := hc.own.cell 5
  have f3 := hc.own.frozen 3
  have f4 := hc.own.frozen 4
  simp only [chipCells, List.getElem?_cons_succ, List.getElem?_cons_zero] at g3 g4 g5
  have HC := Lib.hid hc
  clear hc
  by_cases h0 : c.left = 0
  · rw [h0] at g4
    have z := Lib.hid h0
    clear h0
    go_enter Tryz.func118, Tryz.ntmps118
    go_wp2
    go_ret2
    have h0 : c.left = 0 := z.out
    exact ⟨ret2_u (by rw [mPick, if_neg (by omega)]; rfl) (by rw [mErr, if_neg (by omega)]), by rw [mChange, if_pos h0]; exact HC.out, Turned.refl _ _⟩
  · have q : (c.left == 0) = false := by rw [beq_eq_false_iff_ne]; exact h0
    by_cases h1 : c.left = 1
    · rw [h1] at g4
      have z := Lib.hid h1
      clear h0 q h1
      go_enter Tryz.func118, Tryz.ntmps118
      go_wp2
      go_ret2
      have h1 : c.left = 1 := z.out
      refine ⟨ret2_u (by rw [mPick, if_pos h1]) (by rw [mErr, if_pos h1]), ?_, ?_⟩
      · rw [mChange, if_neg (by omega), if_pos h1]
        exact (HC.out.putLeft _).putUp _
      · exact ((Turned.refl (Just h.p) w).setCell (p := ⟨h.p, 4, none⟩) (fun _ => rfl) _).setCell (p := ⟨h.p, 3, none⟩) (fun _ => rfl) _
    · have l2 : 0 < c.left - 1 := by omega
      clear h1
      go_enter Tryz.func118, Tryz.ntmps118
      go_wp2
      go_ret2
      refine ⟨ret2_u (by rw [mPick, if_neg (by omega)]; rfl) (by rw [mErr, if_neg (by omega)]), ?_, ?_⟩
      · rw [mChange, if_neg (by omega), if_neg (by omega)]
        exact HC.out.putLeft _
      · exact (Turned.refl (Just h.p) w).setCell (p := ⟨h.p, 4, none⟩) (fun _ => rfl) _
theorem read_no (h : Hd) (c : ChipM) (k : Nat) (a : Int) (w : World) (hc : ChipAt w h c) (ok : ChipOk k c) (hr : mRefuse c a c.ws.length ≠ 0) :
    Calls Tryz.prog 93 #[.pointer (some ⟨h.p, 0, none⟩), .int .i64 a] w fun e w' => e = .returned (.tuple #[.int .u32 0, .int .i64 (mRefuse c a c.ws.length)]) ∧ w' = w := by
  have k1 := ok.k1
  have k2 := ok.k2
  have kw := ok.wears
  have hl := ok.words
  have e : wrap64 ((c.wear.length : Int) * 64) = (c.ws.length : Int) := by unfold wrap64; omega
  have q : (mRefuse c a c.ws.length == 0) = false := by rw [beq_eq_false_iff_ne]; exact hr
  have q' : (mRefuse c a c.ws.length != 0) = true := by rw [bne_iff_ne]; exact hr
  have k3 : 1 ≤ c.wear.length := by omega
  clear hr kw hl k1
  go_enter Tryz.func93, Tryz.ntmps93
  go_wp2_with (first
    | (go_at_call 30; with_reducible refine (blocks_any _ _ _ hc).mono ?_; rintro e w' ⟨rfl, rfl⟩)
    | (go_at_call 108; with_reducible refine (refuse_any _ _ _ _ _ hc k3).mono ?_; rintro e w' ⟨rfl, rfl⟩))
  go_ret2
  exact ⟨rfl, rfl⟩
theorem read_yes (h : Hd) (c : ChipM) (k : Nat) (i : Nat) (w : World) (hc : ChipAt w h c) (ok : ChipOk k c) (hi : i < c.ws.length) (hr : mRefuse c i c.ws.length = 0) :
    Calls Tryz.prog 93 #[.pointer (some ⟨h.p, 0, none⟩), .int .i64 i] w fun e w' => e = .returned (.tuple #[.int .u32 (U (wd c.ws i)), .int .i64 0]) ∧ w' = w := by
  have k1 := ok.k1
  have k2 := ok.k2
  have kw := ok.wears
  have hl := ok.words
  have e : wrap64 ((c.wear.length : Int) * 64) = (c.ws.length : Int) := by unfold wrap64; omega
  have k3 : 1 ≤ c.wear.length := by omega
  have g0 := hc.own.cell 0
  simp only [chipCells, List.getElem?_cons_zero] at g0
  have gi := hc.word i hi
  have room := hc.room
  have cap := hc.cap
  clear kw hl k1
  go_enter Tryz.func93, Tryz.ntmps93
  go_wp2_with (first
    | (go_at_call 30; with_reducible refine (blocks_any _ _ _ hc).mono ?_; rintro e w' ⟨rfl, rfl⟩)
    | (go_at_call 108; with_reducible refine (refuse_any _ _ _ _ _ hc k3).mono ?_; rintro e w' ⟨rfl, rfl⟩))
  go_ret2
  exact ⟨rfl, rfl⟩
theorem program_no (h : Hd) (c : ChipM) (k : Nat) (a : Int) (v : BitVec 32) (w : World) (hc : ChipAt w h c) (ok : ChipOk k c) (hr : mRefuse c a c.ws.length ≠ 0) :
    Calls Tryz.prog 114 #[.pointer (some ⟨h.p, 0, none⟩), .int .i64 a, .int .u32 (U v)] w fun e w' => e = .returned (.int .i64 (mRefuse c a c.ws.length)) ∧ w' = w := by
  have k1 := ok.k1
  have k2 := ok.k2
  have kw := ok.wears
  have hl := ok.words
  have e : wrap64 ((c.wear.length : Int) * 64) = (c.ws.length : Int) := by unfold wrap64; omega
  have q : (mRefuse c a c.ws.length == 0) = false := by rw [beq_eq_false_iff_ne]; exact hr
  have q' : (mRefuse c a c.ws.length != 0) = true := by rw [bne_iff_ne]; exact hr
  have k3 : 1 ≤ c.wear.length := by omega
  clear hr kw hl k1
  go_enter Tryz.func114, Tryz.ntmps114
  go_wp2_with (first
    | (go_at_call 30; with_reducible refine (blocks_any _ _ _ hc).mono ?_; rintro e w' ⟨rfl, rfl⟩)
    | (go_at_call 108; with_reducible refine (refuse_any _ _ _ _ _ hc k3).mono ?_; rintro e w' ⟨rfl, rfl⟩))
  go_ret
  exact ⟨rfl, rfl⟩
set_option maxRecDepth 100000 in
theorem program_yes (h : Hd) (c : ChipM) (k : Nat) (i : Nat) (v : BitVec 32) (w : World) (hc : ChipAt w h c) (ok : ChipOk k c) (hi : i < c.ws.length) (hr : mRefuse c i c.ws.length = 0) :
    Calls Tryz.prog 114 #[.pointer (some ⟨h.p, 0, none⟩), .int .i64 i, .int .u32 (U v)] w fun e w' => e = .returned (.int .i64 (mErr c)) ∧ ChipAt w' h (mProgramDo c i v) ∧ Turned h.own w w' := by
  have k1 := ok.k1
  have k2 := ok.k2
  have kw := ok.wears
  have hl := ok.words
  have l0 := ok.l0
  have l1 := ok.l1
  have e : wrap64 ((c.wear.length : Int) * 64) = (c.ws.length : Int) := by unfold wrap64; omega
  have k3 : 1 ≤ c.wear.length := by omega
  have room := hc.room
  have cap := hc.cap
  clear kw hl k1
  go_enter Tryz.func114, Tryz.ntmps114
  go_wp2_with (first
    | (go_at_call 30; with_reducible refine (blocks_any _ _ _ hc).mono ?_; rintro e w' ⟨rfl, rfl⟩)
    | (go_at_call 108; with_reducible refine (refuse_any _ _ _ _ _ hc k3).mono ?_; rintro e w' ⟨rfl, rfl⟩)
    | (go_at_call 118; with_reducible refine (change_any _ _ _ hc l0 l1).mono ?_; rintro e w1 ⟨rfl, hc1, ht1⟩))
  have g0 := hc1.own.cell 0
  simp only [chipCells, List.getElem?_cons_zero, mChange_ws] at g0
  have gi := hc1.word i (by rw [mChange_ws]; exact hi)
  rw [mChange_ws] at gi
  have f0 := hc1.words.frozen i
  refine wp_region_still_tail 24 (by kernel_rfl) (by kernel_rfl) ?_
  simp only [List.take_succ_cons, List.take_zero, List.drop_succ_cons, List.drop_zero]
  change wpStill _ _ w1.drew _ _ _
  repeat still_step
  still_call (partial_any _ _ _ _)
  repeat still_step
  refine wpStill_nil ?_
  change wpList _ _ _ _ _ w1.drew
  go_wp2
  go_ret
  refine ⟨rfl, ?_, ?_⟩
  · have := (hc1.drewN 1).putWord i (by rw [mChange_ws]; exact hi) (partB (wd c.ws i) (wd c.ws i &&& v) (mPick c))
    rw [mChange_ws] at this
    exact this
  · exact ((ht1.mono (S' := h.own) fun _ _ h => .inl h).drew).setCell (p := ⟨h.bw, i, none⟩) (fun _ => .inr (.inl rfl)) _
end Go.Proofs.YtpkkejdjhnmjiaaGreat
namespace Go.Proofs.YtpkkejdjhnmjiaaGreat
open Go.RowKit Bm
theorem erase_no (h : Hd) (c : ChipM) (k : Nat) (a : Int) (w : World) (hc : ChipAt w h c) (ok : ChipOk k c) (hr : mRefuse c a c.wear.length ≠ 0) :
    Calls Tryz.prog 116 #[.pointer (some ⟨h.p, 0, none⟩), .int .i64 a] w fun e w' => e = .returned (.int .i64 (mRefuse c a c.wear.length)) ∧ w' = w := by
  have k1 := ok.k1
  have k2 := ok.k2
  have kw := ok.wears
  have q : (mRefuse c a c.wear.length == 0) = false := by rw [beq_eq_false_iff_ne]; exact hr
  have q' : (mRefuse c a c.wear.length != 0) = true := by rw [bne_iff_ne]; exact hr
  have k3 : 1 ≤ c.wear.length := by omega
  clear hr kw k1
  go_enter Tryz.func116, Tryz.ntmps116
  go_wp2_with (first
    | (go_at_call 30; with_reducible refine (blocks_any _ _ _ hc).mono ?_; rintro e w' ⟨rfl, rfl⟩)
    | (go_at_call 108; with_reducible refine (refuse_any _ _ _ _ _ hc k3).mono ?_; rintro e w' ⟨rfl, rfl⟩))
  go_ret
  exact ⟨rfl, rfl⟩
theorem erase_worn (h : Hd) (c : ChipM) (k : Nat) (b : Nat) (w : World) (hc : ChipAt w h c) (ok : ChipOk k c) (hb : b < c.wear.length) (hr : mRefuse c b c.wear.length = 0) (hw : c.endure ≤ nm c.wear b) :
    Calls Tryz.prog 116 #[.pointer (some ⟨h.p, 0, none⟩), .int .i64 b] w fun e w' => e = .returned (.int .i64 5) ∧ ∃ n, w' = w.drewN n := by
  have k2 := ok.k2
  have kw := ok.wears
  have k3 : 1 ≤ c.wear.length := by omega
  have k4 : c.wear.length ≤ 64 := by omega
  have g1 := hc.own.cell 1
  have g2 := hc.own.cell 2
  simp only [chipCells, List.getElem?_cons_zero, List.getElem?_cons_succ] at g1 g2
  have gb := hc.worn b hb
  clear kw
  go_enter Tryz.func116, Tryz.ntmps116
  go_wp2_with (first
    | (go_at_call 30; with_reducible refine (blocks_any _ _ _ hc).mono ?_; rintro e w' ⟨rfl, rfl⟩)
    | (go_at_call 108; with_reducible refine (refuse_any _ _ _ _ _ hc k3).mono ?_; rintro e w' ⟨rfl, rfl⟩))
  go_quiet (fail)
  go_wp2
  go_ret
  exact ⟨rfl, _, rfl⟩
theorem partial_ones (f p : BitVec 32) (w : World) :
    Calls Tryz.prog 119 #[.int .u32 (U f), .int .u32 4294967295, .int .u32 (U p)] w fun e w' => e = .returned (.int .u32 (U (partB f ones p))) ∧ w' = w :=
  partial_any f ones p w
def eraseState (c : ChipM) (b n : Nat) : ChipM := { mChange c with wear := c.wear.set b (nm c.wear b + 1), ws := eraseTo c.ws b n (mPick c) }
theorem ChipAt.eraseStep {w : World} {h : Hd} {c : ChipM} {b n : Nat} (hc : ChipAt w h (eraseState c b n)) (hi : b * 64 + n < c.ws.length) :
    ChipAt (w.setCell ⟨h.bw, b * 64 + n, none⟩ (.int .u32 (U (partB (wd c.ws (b * 64 + n)) ones (turnB (mPick c) (n : Int)))))) h (eraseState c b (n + 1)) := by
  have g := hc.putWord (b * 64 + n) (by show _ < (eraseTo c.ws b n (mPick c)).length; rw [eraseTo_length]; exact hi) (partB (wd c.ws (b * 64 + n)) ones (turnB (mPick c) (n : Int)))
  have e : ({ eraseState c b n with ws := (eraseState c b n).ws.set (b * 64 + n) (partB (wd c.ws (b * 64 + n)) ones (turnB (mPick c) (n : Int))) } : ChipM) = eraseState c b (n + 1) := by
    unfold eraseState
    rw [← eraseTo_step]
  rw [e] at g
  exact g
theorem ChipAt.eraseWord {w : World} {h : Hd} {c : ChipM} {b n : Nat} (hc : ChipAt w h (eraseState c b n)) (hi : b * 64 + n < c.ws.length) :
    w.cell? ⟨h.bw, b * 64 + n, none⟩ = some (.int .u32 (U (wd c.ws (b * 64 + n)))) := by
  have g := hc.word (b * 64 + n) (by show _ < (eraseTo c.ws b n (mPick c)).length; rw [eraseTo_length]; exact hi)
  have e : wd (eraseState c b n).ws (b * 64 + n) = wd c.ws (b * 64 + n) := by
    show wd (eraseTo c.ws b n (mPick c)) (b * 64 + n) = _
    rw [eraseTo_get _ _ _ _ _ hi, if_neg (by omega)]
  rw [e] at g
  exact g
set_option maxRecDepth 100000 in
set_option maxHeartbeats 1000000 in
theorem erase_yes (h : Hd) (c : ChipM) (k : Nat) (b : Nat) (w : World) (hc : ChipAt w h c) (ok : ChipOk k c) (hb : b < c.wear.length) (hr : mRefuse c b c.wear.length = 0) (hw : nm c.wear b < c.endure) :
    Calls Tryz.prog 116 #[.pointer (some ⟨h.p, 0, none⟩), .int .i64 b] w fun e w' => e = .returned (.int .i64 (mErr c)) ∧ ChipAt w' h (mEraseDo c b) ∧ Turned h.own w w' := by
  have k2 := ok.k2
  have kw := ok.wears
  have l0 := ok.l0
  have l1 := ok.l1
  have e0 := ok.w0 b
  have e1 := ok.e1
  have kws := ok.words
  have k3 : 1 ≤ c.wear.length := by omega
  have k4 : c.wear.length ≤ 64 := by omega
  have k5 : b * 64 + 64 ≤ c.ws.length := by omega
  have g1 := hc.own.cell 1
  have g2 := hc.own.cell 2
  simp only [chipCells, List.getElem?_cons_zero, List.getElem?_cons_succ] at g1 g2
  have gb := hc.worn b hb
  have hd : decide (c.endure ≤ nm c.wear b) = false := by rw [decide_eq_false_iff_not]; omega
  clear kw kws
  go_enter Tryz.func116, Tryz.ntmps116
  go_wp2_with (first
    | (go_at_call 30; with_reducible refine (blocks_any _ _ _ hc).mono ?_; rintro e w' ⟨rfl, rfl⟩)
    | (go_at_call 108; with_reducible refine (refuse_any _ _ _ _ _ hc k3).mono ?_; rintro e w' ⟨rfl, rfl⟩))
  go_quiet (fail)
  have hcq := hc.drewN nq
  go_wp2_with (
    (go_at_call 118
     with_reducible refine (change_any _ _ _ hcq l0 l1).mono ?_
     rintro e w1 ⟨rfl, hc1, ht1⟩
     have g10 := hc1.own.cell 0
     have g11 := hc1.own.cell 1
     simp only [chipCells, List.getElem?_cons_zero, List.getElem?_cons_succ, mChange_ws, mChange_wear] at g10 g11
     have g1b := hc1.worn b (by rw [mChange_wear]; exact hb)
     rw [mChange_wear] at g1b
     have f1b := hc1.wear.frozen b
     have room := hc1.room
     rw [mChange_ws] at room
     have cap := hc1.cap
     have pbe := hc1.pbe
     have ne1 : (⟨h.be, b, none⟩ : Addr) ≠ ⟨h.p, 0, none⟩ := by intro e; injection e; omega))
  have hc2 : ChipAt (w1.setCell ⟨h.be, b, none⟩ (.int .i64 (nm c.wear b + 1))) h (eraseState c b 0) := by
    have g := hc1.putWear b (nm c.wear b + 1)
    unfold eraseState
    rw [eraseTo_zero]
    rw [mChange_wear] at g
    have e : mChange c = { mChange c with ws := c.ws } := by rw [← mChange_ws c]
    rw [e] at g
    exact g
  have ht2 : Turned h.own w' (w1.setCell ⟨h.be, b, none⟩ (.int .i64 (nm c.wear b + 1))) :=
    (((Turned.refl h.own w').drewN nq).trans (ht1.mono fun _ _ h => .inl h)).setCell (p := ⟨h.be, b, none⟩) (fun _ => .inr (.inr rfl)) _
  clear g1 g2 gb g10 g11 g1b f1b hc1 ht1 hcq hc ne1
  go_loopw [55] (fun i wr => ∃ n : Nat, n ≤ 64 ∧ i = .int .i64 n ∧ ChipAt wr h (eraseState c b n) ∧ Turned h.own w' wr) (fun i _ => 64 - (intOf i).toNat)
  case atStart => exact ⟨0, by omega, rfl, hc2, ht2⟩
  case round =>
    clear hc2 ht2
    obtain ⟨n, hn, rfl, hcr, htr⟩ := hrel
    by_cases hlt : n < 64
    · have gi := hcr.eraseWord (by omega)
      have fi := hcr.words.frozen (b * 64 + n)
      have HC := Lib.hid hcr
      clear hcr
      go_wp2_with (first
        | (go_at_call 120; with_reducible refine (turn_any _ _ _).mono ?_; rintro e w2 ⟨rfl, nt, rfl⟩)
        | (go_at_call 119; with_reducible refine (partial_ones _ _ _).mono ?_; rintro e w2 ⟨rfl, rfl⟩))
      go_roundw
      case rel => exact ⟨n + 1, by omega, by go_num, (HC.out.drewN nt).eraseStep (by omega), (htr.drewN nt).setCell (p := ⟨h.bw, b * 64 + n, none⟩) (fun _ => .inr (.inl rfl)) _⟩
      case measure => simp [intOf]; omega
    · obtain rfl : n = 64 := by omega
      go_wp2
      go_ret
      exact ⟨rfl, hcr, htr⟩
end Go.Proofs.YtpkkejdjhnmjiaaGreat
