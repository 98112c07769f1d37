import Derived.Test.YtnfgpjfldgocaaaGreatFtlMp
import Derived.Test.YtnfgpjfldgocaaaGreatFtl8
import Derived.Test.YtnfgpjfldgocaaaGreatSeq
namespace Go.Proofs.YtnfgpjfldgocaaaGreat
section
open Go.RowKit Bm
def stopW (ws l : List (BitVec 32)) (a n : Nat) (p : BitVec 32) : List (BitVec 32) := (andW ws a (l.take n)).set (a + n) (partB (wd ws (a + n)) (wd ws (a + n) &&& wd l n) p)
section
variable {k : Nat} {d : DrvM} {ws l : List (BitVec 32)} {a n : Nat} {p : BitVec 32}
theorem stopW_len : (stopW ws l a n p).length = ws.length := by unfold stopW; rw [List.length_set, andW_len]
theorem stopW_get (h : a + l.length <= ws.length) (hn : n < l.length) (i : Nat) : (stopW ws l a n p)[i]? = if a <= i /\ i < a + n then some (wd ws i &&& wd l (i - a)) else if i = a + n then some (partB (wd ws i) (wd ws i &&& wd l n) p) else ws[i]? := by
 unfold stopW
 have ht : (l.take n).length = n := by rw [List.length_take]; omega
 have hg : (andW ws a (l.take n))[i]? = if a <= i /\ i < a + n then some (wd ws i &&& wd (l.take n) (i - a)) else ws[i]? := by
  rw [andW_get (l.take n) ws a (by rw [ht]; omega), ht]
 by_cases e : i = a + n
 ·subst e
  rw [List.getElem?_set_self (by rw [andW_len]; omega), if_neg (by omega), if_pos rfl]
 ·rw [List.getElem?_set_ne (Ne.symm e), hg, if_neg e]
  by_cases h1 : a <= i /\ i < a + n
  ·rw [if_pos h1, if_pos h1]
   have : wd (l.take n) (i - a) = wd l (i - a) := by
    unfold wd
    rw [List.getD_eq_getElem?_getD, List.getD_eq_getElem?_getD, List.getElem?_take_of_lt (by omega)]
   rw [this]
  ·rw [if_neg h1, if_neg h1]
theorem stopW_wd (h : a + l.length <= ws.length) (hn : n < l.length) (i : Nat) : wd (stopW ws l a n p) i = if a <= i /\ i < a + n then wd ws i &&& wd l (i - a) else if i = a + n then partB (wd ws i) (wd ws i &&& wd l n) p else wd ws i := by
 have := stopW_get (p := p) h hn i
 have e : wd (stopW ws l a n p) i = (stopW ws l a n p)[i]?.getD 0#32 := by unfold wd; rw [List.getD_eq_getElem?_getD]
 have e2 : wd ws i = ws[i]?.getD 0#32 := by unfold wd; rw [List.getD_eq_getElem?_getD]
 rw [e, this]
 split
 ·rfl
 ·split
  ·rfl
  ·exact e2.symm
theorem stopW_cons (v : BitVec 32) : stopW (ws.set a (wd ws a &&& v)) l (a + 1) n p = stopW ws (v :: l) a (n + 1) p := by
 unfold stopW
 have e : wd (ws.set a (wd ws a &&& v)) (a + 1 + n) = wd ws (a + (n + 1)) := by
  rw [wd_setS _ _ _ _ (by omega), show a + 1 + n = a + (n + 1) by omega]
 rw [List.take_succ_cons, andW_cons, e, show a + 1 + n = a + (n + 1) by omega]
 rfl
def cutC (c : ChipM) (ws : List (BitVec 32)) : ChipM := { c with left := 0, up := false, ws := ws }
theorem dPut_cut (h : Live k d) (hl : d.f.chip.left = 1) (a : Nat) (a1 : a < k * 64) (v : BitVec 32) :
  (dPut d a v).2 = 4 /\ (dPut d a v).1.f.chip = cutC d.f.chip (d.f.chip.ws.set a (partB (wd d.f.chip.ws a) (wd d.f.chip.ws a &&& v) d.f.chip.pick)) := by
 have h1 := refuse_live h (a := (a : Int)) (by omega) (by omega)
 unfold dPut
 rw [if_pos h1, h.free, if_neg (by decide)]
 unfold fRefuse at h1
 unfold mProgram
 rw [if_pos h1]
 unfold mErr mProgramDo mChange mPick cutC
 rw [if_pos hl, if_pos hl, if_neg (by omega), if_pos hl, Int.toNat_natCast]
 exact ⟨rfl, rfl⟩
theorem dProgram_cut (l : List (BitVec 32)) : ∀ {d : DrvM} (_ : Live k d) (a n : Nat) (_ : a + l.length <= k * 64) (_ : n < l.length) (_ : d.f.chip.left = (n : Int) + 1),
  (dProgram d a l).2 = 4 /\ (dProgram d a l).1.f.chip = cutC d.f.chip (stopW d.f.chip.ws l a n d.f.chip.pick) := by
 induction l with
 | nil => intro d h a n ha hn _; exact absurd hn (Nat.not_lt_zero _)
 | cons v l ih =>
   intro d h a n ha hn hl
   rw [List.length_cons] at ha hn
   match n, hn, hl with
   | 0, _, hl =>
     obtain ⟨e1, e2⟩ := dPut_cut h (by omega) a (by omega) v
     have e : dProgram d a (v :: l) = dPut d a v := by
      rw [dProgram, if_neg (by rw [e1]; decide)]
     rw [e]
     refine ⟨e1, ?_⟩
     rw [e2]
     unfold stopW
     rw [List.take_zero, andW_nil]
     rfl
   | n + 1, hn, hl =>
     have hr : Room 1 d.f.chip := .inr (by omega)
     have h1 := dPut_live h hr a (by omega) v
     have hL : Live k (dPut d a v).1 := ⟨put_calm h.ok a v, by rw [h1]; exact h.up, fun i => by rw [h1]; exact h.free i⟩
     have e : dProgram d a (v :: l) = dProgram (dPut d a v).1 ((a + 1 : Nat) : Int) l := by
      rw [dProgram, h1, if_pos rfl]
      rfl
     have hb : burn 1 d.f.chip = (n : Int) + 1 := by
      unfold burn
      rw [if_neg (by omega)]
      omega
     rw [h1] at hL e
     obtain ⟨h2, h3⟩ := ih hL (a + 1) n (by omega) (by omega) hb
     rw [e]
     refine ⟨h2, ?_⟩
     rw [h3]
     show cutC { d.f.chip with left := burn 1 d.f.chip, ws := d.f.chip.ws.set a (wd d.f.chip.ws a &&& v) } (stopW (d.f.chip.ws.set a (wd d.f.chip.ws a &&& v)) l (a + 1) n d.f.chip.pick) = _
     rw [stopW_cons]
     rfl
theorem dErase_cut (h : Live k d) (hl : d.f.chip.left = 1) (b : Nat) (hb : b < k) (hw : nm d.f.chip.wear b < d.f.chip.endure) :
  (dErase d b).2 = 4 /\ (dErase d b).1.f.chip = { cutC d.f.chip (eraseTo d.f.chip.ws b 64 d.f.chip.pick) with wear := d.f.chip.wear.set b (nm d.f.chip.wear b + 1) } := by
 have h1 := refuse_live h (a := (b : Int) * 64) (by omega) (by omega)
 have hR : mRefuse d.f.chip (b : Int) d.f.chip.wear.length = 0 := by
  unfold mRefuse
  rw [h.up, if_neg (by decide), h.ok.ok.chip.wears, if_neg (by omega)]
 unfold dErase
 rw [if_pos h1, h.free, if_neg (by decide)]
 unfold mErase
 rw [if_pos hR, Int.toNat_natCast, if_neg (by omega)]
 unfold mErr mEraseDo mChange mPick cutC
 rw [if_pos hl, if_pos hl, if_neg (by omega), if_pos hl]
 exact ⟨rfl, rfl⟩
theorem not_room {n : Nat} {c : ChipM} (h : ¬ Room n c) (h0 : 0 <= c.left) : ∃ m : Nat, m < n /\ c.left = (m : Int) + 1 := by
 unfold Room at h
 exact ⟨(c.left - 1).toNat, by omega, by omega⟩
theorem erase_wd (ws : List (BitVec 32)) (b i : Nat) (p : BitVec 32) (hi : i < ws.length) : wd (eraseTo ws b 64 p) i = if b * 64 <= i /\ i < b * 64 + 64 then partB (wd ws i) 4294967295#32 (turnB p ((i - b * 64 : Nat) : Int)) else wd ws i := by
 unfold eraseTo wd
 rw [List.getD_eq_getElem?_getD, List.getD_eq_getElem?_getD, List.getElem?_mapIdx, List.getElem?_eq_getElem hi, Option.map_some]
 rfl
end
end
section
open Go.RowKit Bm
def lastW : BitVec 32 := 1526644958#32
def firstW : BitVec 32 := 2970353665#32
section
variable {k b i n : Nat} {ws us : List (BitVec 32)} {p : BitVec 32} {pg : PageM}
theorem ones_all : (4294967295#32 : BitVec 32) = BitVec.allOnes 32 := by decide
theorem part_or (x p : BitVec 32) : partB x 4294967295#32 p = x ||| p := by
 apply BitVec.eq_of_getLsbD_eq
 intro i hi
 unfold partB
 rw [ones_all]
 simp only [BitVec.getLsbD_or, BitVec.getLsbD_and, BitVec.getLsbD_not, BitVec.getLsbD_allOnes, hi, decide_true, Bool.true_and]
 cases x.getLsbD i <;> cases p.getLsbD i <;> rfl
theorem part_and (f p : BitVec 32) : partB 4294967295#32 (4294967295#32 &&& f) p &&& f = f := by
 apply BitVec.eq_of_getLsbD_eq
 intro i hi
 unfold partB
 rw [ones_all]
 simp only [BitVec.getLsbD_or, BitVec.getLsbD_and, BitVec.getLsbD_not, BitVec.getLsbD_allOnes, hi, decide_true, Bool.true_and]
 cases f.getLsbD i <;> cases p.getLsbD i <;> rfl
theorem turn_nil (p : BitVec 32) : turnB p ((0 : Nat) : Int) = p := by
 unfold turnB
 rw [show (((0 : Nat) : Int) % 32).toNat = 0 from rfl, show (32 - ((0 : Nat) : Int) % 32).toNat = 32 from rfl]
 apply BitVec.eq_of_getLsbD_eq
 intro i hi
 simp
theorem sub_tr (w x y : BitVec 32) (h1 : w &&& y = y) (h2 : w &&& x = w) : x &&& y = y := by
 rw [<- h1, <- BitVec.and_assoc, BitVec.and_comm x w, h2]
theorem list4 {α : Type} {l : List α} (h : l.length = 4) : ∃ a b c e, l = [a, b, c, e] := by
 match l, h with
 | [a, b, c, e], _ => exact ⟨a, b, c, e, rfl⟩
theorem wd_win {a n j : Nat} (h : j < n) : wd (win ws a n) j = wd ws (a + j) := by
 unfold wd
 rw [List.getD_eq_getElem?_getD, List.getD_eq_getElem?_getD, win_get, if_pos h]
theorem head_iff4 (x y z t : BitVec 32) : (hdRd [x, y, z, t]).2 = 1 ↔ x = firstW /\ z = ~~~y /\ U y <= 2147483648 /\ t = lastW := by
 have e1 : wd [x, y, z, t] 1 = y := rfl
 unfold hdRd
 rw [if_pos (show [x, y, z, t].length = 4 from rfl), e1]
 constructor
 ·intro h
  split at h
  ·cases h
  ·split at h
   ·next hw =>
    unfold hdWs at hw
    split at hw
    ·next hu =>
     simp only [List.cons.injEq, and_true] at hw
     exact ⟨hw.1.symm, hw.2.2.1.symm, hu, hw.2.2.2.symm⟩
    ·cases hw
   ·cases h
 ·rintro ⟨rfl, rfl, hu, rfl⟩
  rw [if_neg, if_pos]
  ·unfold hdWs
   rw [if_pos hu]
   rfl
  ·intro hf
   have := ones_of_free (n := 4) rfl hf
   unfold onesW at this
   simp [List.replicate, firstW] at this
theorem hdRd_count {l : List (BitVec 32)} (h : (hdRd l).2 = 1) : (hdRd l).1 = wd l 1 := by
 unfold hdRd at h ⊢
 split at h
 ·next hl =>
  rw [if_pos hl]
  split at h
  ·cases h
  ·next hf =>
   rw [if_neg hf]
   split at h
   ·next hw => rw [if_pos hw]
   ·cases h
 ·cases h
theorem win4 (hl : 64 * b + 4 <= ws.length) : win ws (64 * b) 4 = [wd ws (64 * b), wd ws (64 * b + 1), wd ws (64 * b + 2), wd ws (64 * b + 3)] := by
 obtain ⟨x, y, z, t, e⟩ := list4 (win_len (ws := ws) (a := 64 * b) (n := 4) hl)
 have h0 := wd_win (ws := ws) (a := 64 * b) (n := 4) (j := 0) (by omega)
 have h1 := wd_win (ws := ws) (a := 64 * b) (n := 4) (j := 1) (by omega)
 have h2 := wd_win (ws := ws) (a := 64 * b) (n := 4) (j := 2) (by omega)
 have h3 := wd_win (ws := ws) (a := 64 * b) (n := 4) (j := 3) (by omega)
 rw [e] at h0 h1 h2 h3 ⊢
 rw [<- h1, <- h2, <- h3, show wd ws (64 * b) = wd ws (64 * b + 0) from rfl, <- h0]
 rfl
theorem head_iff (hl : 64 * b + 64 <= ws.length) : (bkOf (chunk ws b)).head = 1 ↔ wd ws (64 * b) = firstW /\ wd ws (64 * b + 2) = ~~~wd ws (64 * b + 1) /\ U (wd ws (64 * b + 1)) <= 2147483648 /\ wd ws (64 * b + 3) = lastW := by
 rw [bkOf_win, win4 (by omega)]
 exact head_iff4 _ _ _ _
def Blank (ws : List (BitVec 32)) (b : Nat) : Prop := ∀ i, 4 <= i -> i < 60 -> wd ws (64 * b + i) = 4294967295#32
theorem blank_good (hl : 64 * b + 64 <= ws.length) (h : Blank ws b) (hh : (bkOf (chunk ws b)).head = 1) : ∃ c, U c <= 2147483648 /\ bkOf (chunk ws b) = blkG c := by
 have h4 := (head_iff hl).1 hh
 refine ⟨(hdRd (win ws (64 * b) 4)).1, ?_, ?_⟩
 ·rw [hdRd_count (by rw [bkOf_win] at hh; exact hh), wd_win (by omega)]
  exact h4.2.2.1
 ·have hp : ∀ i, i < 8 -> win ws (64 * b + 4 + 7 * i) 7 = onesW 7 := fun i hi => by
   apply List.ext_getElem?
   intro j
   rw [win_get]
   unfold onesW
   rw [List.getElem?_replicate]
   by_cases hj : j < 7
   ·rw [if_pos hj, if_pos hj, wd_get (by omega), show 64 * b + 4 + 7 * i + j = 64 * b + (4 + 7 * i + j) by omega, h _ (by omega) (by omega)]
   ·rw [if_neg hj, if_neg hj]
  rw [bkOf_win] at hh ⊢
  have hh' : (hdRd (win ws (64 * b) 4)).2 = 1 := hh
  have e1 : (List.range 8).map (fun i => if (hdRd (win ws (64 * b) 4)).2 = 1 then (pgRd (win ws (64 * b + 4 + 7 * i) 7)).2 else 2) = List.replicate 8 0 := by
   rw [List.map_congr_left (g := fun _ => (0 : Int)) (fun i hi => by rw [hp i (List.mem_range.1 hi), ones_read, if_pos hh'])]
   rfl
  have e2 : (List.range 8).map (fun i => if (hdRd (win ws (64 * b) 4)).2 = 1 then (pgRd (win ws (64 * b + 4 + 7 * i) 7)).1 else pg0) = List.replicate 8 pg0 := by
   rw [List.map_congr_left (g := fun _ => pg0) (fun i hi => by rw [hp i (List.mem_range.1 hi), ones_read, if_pos hh'])]
   rfl
  rw [e1, e2, hh']
  rfl
def Dub (ws : List (BitVec 32)) (b : Nat) : Prop := wd ws (64 * b) &&& firstW = firstW /\ ((wd ws (64 * b) = firstW -> wd ws (64 * b + 3) &&& lastW ≠ lastW) \/ Blank ws b)
def Safe (ws : List (BitVec 32)) (b : Nat) : Prop := (bkOf (chunk ws b)).head = 1 \/ Dub ws b
inductive Was (ws us : List (BitVec 32)) (b : Nat) : Prop
 | same : chunk us b = chunk ws b -> Was ws us b
 | dub : (bkOf (chunk us b)).head ≠ 1 -> Dub us b -> Was ws us b
 | empty (c : BitVec 32) : U c <= 2147483648 -> bkOf (chunk us b) = blkG c -> Was ws us b
theorem wd_chunk {j : Nat} (hj : j < 64) : wd (chunk ws b) j = wd ws (64 * b + j) := wd_win (a := 64 * b) (n := 64) hj
theorem chunk_wd (hl : us.length = ws.length) (h : ∀ j, j < 64 -> wd us (64 * b + j) = wd ws (64 * b + j)) : chunk us b = chunk ws b := by
 refine bkOf_congr fun i hi => ?_
 by_cases hlt : 64 * b + i < ws.length
 ·rw [wd_get (ws := us) (by omega), wd_get hlt, h i hi]
 ·rw [List.getElem?_eq_none (by omega), List.getElem?_eq_none (by omega)]
theorem dub_congr (h : chunk us b = chunk ws b) : Dub us b ↔ Dub ws b := by
 have hw : ∀ j, j < 64 -> wd us (64 * b + j) = wd ws (64 * b + j) := fun j hj => by rw [<- wd_chunk hj, h, wd_chunk hj]
 have h0 : wd us (64 * b) = wd ws (64 * b) := hw 0 (by omega)
 unfold Dub Blank
 rw [h0, hw 3 (by omega)]
 constructor
 ·rintro ⟨h1, h2 | h2⟩
  ·exact ⟨h1, .inl h2⟩
  ·exact ⟨h1, .inr fun i h4 h6 => by rw [<- hw i (by omega)]; exact h2 i h4 h6⟩
 ·rintro ⟨h1, h2 | h2⟩
  ·exact ⟨h1, .inl h2⟩
  ·exact ⟨h1, .inr fun i h4 h6 => by rw [hw i (by omega)]; exact h2 i h4 h6⟩
theorem safe_congr (h : chunk us b = chunk ws b) : Safe us b ↔ Safe ws b := by
 unfold Safe
 rw [dub_congr h, h]
theorem Was.safe (h : Was ws us b) (hs : Safe ws b) : Safe us b := by
 cases h with
 | same e => exact (safe_congr e).2 hs
 | dub _ h2 => exact .inr h2
 | empty c _ h2 => exact .inl (by rw [h2]; rfl)
theorem Safe.first (hl : 64 * b + 64 <= ws.length) (h : Safe ws b) : wd ws (64 * b) &&& firstW = firstW := by
 rcases h with h | h
 ·rw [((head_iff hl).1 h).1]
  decide
 ·exact h.1
theorem sub_eq (x y : BitVec 32) (h : x &&& y = y) (h2 : x &&& y = x) : x = y := h2.symm.trans h
theorem Safe.unmark (hl : 64 * b + 64 <= ws.length) (h : Safe ws b) (w : BitVec 32) (hw : w &&& wd ws (64 * b + 3) = w) : Was ws (ws.set (64 * b + 3) w) b := by
 obtain ⟨us, hus⟩ : ∃ us, us = ws.set (64 * b + 3) w := ⟨_, rfl⟩
 rw [<- hus]
 have hul : us.length = ws.length := by rw [hus, List.length_set]
 have u3 : wd us (64 * b + 3) = w := by
  rw [hus]
  unfold wd
  rw [List.getD_eq_getElem?_getD, List.getElem?_set_self (by omega)]
  rfl
 have uo : ∀ j, j ≠ 3 -> wd us (64 * b + j) = wd ws (64 * b + j) := fun j hj => by
  rw [hus, wd_setS _ _ _ _ (by omega)]
 have u0 : wd us (64 * b) = wd ws (64 * b) := uo 0 (by omega)
 by_cases hx : w = wd ws (64 * b + 3)
 ·refine .same (chunk_wd hul fun j _ => ?_)
  by_cases e : j = 3
  ·rw [e, u3, hx]
  ·exact uo j e
 by_cases hh : (bkOf (chunk us b)).head = 1
 ·obtain ⟨g0, g1, g2, g3⟩ := (head_iff (by omega)).1 hh
  rw [u3] at g3
  rw [u0] at g0
  rcases h with h | h
  ·have := ((head_iff hl).1 h).2.2.2
   exact absurd (g3.trans this.symm) hx
  ·rcases h.2 with h2 | h2
   ·have := h2 g0
    rw [g3] at hw
    exact absurd (by rw [BitVec.and_comm]; exact hw) this
   ·obtain ⟨c, hc, e⟩ := blank_good (ws := us) (by omega) (fun i h4 h6 => by rw [uo i (by omega)]; exact h2 i h4 h6) hh
    exact .empty c hc e
 ·refine .dub hh ⟨by rw [u0]; exact h.first hl, ?_⟩
  rw [u0, u3]
  rcases h with h | h
  ·left
   intro _ hn
   have hB := ((head_iff hl).1 h).2.2.2
   rw [hB] at hw hx
   exact hx (sub_eq _ _ hn hw)
  ·rcases h.2 with h2 | h2
   ·left
    intro e hn
    refine h2 e ?_
    exact sub_tr _ _ _ hn hw
   ·right
    intro i h4 h6
    rw [uo i (by omega)]
    exact h2 i h4 h6
theorem Safe.erase (hl : 64 * b + 64 <= ws.length) (h0 : wd ws (64 * b) &&& firstW = firstW) (h3 : wd ws (64 * b + 3) = 0#32) (p : BitVec 32) : (bkOf (chunk (eraseTo ws b 64 p) b)).head ≠ 1 /\ Dub (eraseTo ws b 64 p) b := by
 obtain ⟨us, hus⟩ : ∃ us, us = eraseTo ws b 64 p := ⟨_, rfl⟩
 rw [<- hus]
 have hul : us.length = ws.length := by rw [hus, eraseTo_length]
 have u0 : wd us (64 * b) = partB (wd ws (64 * b)) 4294967295#32 p := by
  rw [hus, erase_wd _ _ _ _ (by omega), if_pos (by omega), show (64 * b - b * 64 : Nat) = 0 by omega]
  rw [turn_nil]
 have u3 : wd us (64 * b + 3) = turnB p 3 := by
  rw [hus, erase_wd _ _ _ _ (by omega), if_pos (by omega), show (64 * b + 3 - b * 64 : Nat) = 3 by omega, h3, part_or, BitVec.zero_or]
  rfl
 have e0 := part_or (wd ws (64 * b)) p
 have hnever : wd us (64 * b) = firstW -> wd us (64 * b + 3) &&& lastW ≠ lastW := by
  intro hf hn
  rw [u3] at hn
  rw [u0, e0] at hf
  have b4 := congrArg (fun x => BitVec.getLsbD x 4) hn
  have b1 := congrArg (fun x => BitVec.getLsbD x 1) hf
  have e4 : (turnB p 3).getLsbD 4 = p.getLsbD 1 := by
   unfold turnB
   rw [show ((3 : Int) % 32).toNat = 3 from rfl, show (32 - (3 : Int) % 32).toNat = 29 from rfl]
   simp
  rw [BitVec.getLsbD_and, e4, show lastW.getLsbD 4 = true by decide, Bool.and_true] at b4
  rw [BitVec.getLsbD_or, b4, Bool.or_true, show firstW.getLsbD 1 = false by decide] at b1
  cases b1
 refine ⟨fun hh => ?_, ⟨?_, .inl hnever⟩⟩
 ·obtain ⟨g0, _, _, g3⟩ := (head_iff (ws := us) (by omega)).1 hh
  exact hnever g0 (by rw [g3]; decide)
 ·rw [u0, e0]
  apply BitVec.eq_of_getLsbD_eq
  intro i hi
  have h1 := congrArg (fun x => x.getLsbD i) h0
  simp at h1 ⊢
  intro h
  exact .inl (h1 h)
theorem header_cut (hl : 64 * b + 64 <= ws.length) (ho : ∀ i, i < 64 -> wd ws (64 * b + i) = 4294967295#32) {c : BitVec 32} (hc : U c <= 2147483648) (hn : n < 4) (p : BitVec 32) : Was us (stopW ws (hdWs c) (64 * b) n p) b := by
 have h4 : (hdWs c).length = 4 := by rw [hdWs_yes hc]; rfl
 obtain ⟨vs, hvs⟩ : ∃ vs, vs = stopW ws (hdWs c) (64 * b) n p := ⟨_, rfl⟩
 rw [<- hvs]
 have hvl : vs.length = ws.length := by rw [hvs, stopW_len]
 have hw := fun i => stopW_wd (ws := ws) (l := hdWs c) (a := 64 * b) (n := n) (p := p) (by rw [h4]; omega) (by rw [h4]; exact hn) i
 rw [<- hvs] at hw
 have hbl : Blank vs b := fun i h1 h2 => by
  rw [hw, if_neg (by omega), if_neg (by omega)]
  exact ho i (by omega)
 by_cases hh : (bkOf (chunk vs b)).head = 1
 ·obtain ⟨c', h1, h2⟩ := blank_good (by omega) hbl hh
  exact .empty c' h1 h2
 ·refine .dub hh ⟨?_, .inr hbl⟩
  have o0 := ho 0 (by omega)
  rw [Nat.add_zero] at o0
  have hd0 : wd (hdWs c) 0 = firstW := by rw [hdWs_yes hc]; rfl
  rw [hw]
  by_cases e : n = 0
  ·subst e
   rw [if_neg (by omega), if_pos (by omega), o0, hd0]
   exact part_and _ _
  ·rw [if_pos (by omega), o0, Nat.sub_self, hd0]
   decide
end
end
section
open Go.RowKit Bm
section
variable {k b i n m : Nat} {d d' : DrvM} {x : StoM} {ws us : List (BitVec 32)} {p : BitVec 32} {pg : PageM}
theorem pg_last {xs : List (BitVec 32)} (hl : xs.length = 7) (h : (pgRd xs).2 = 1) : wd xs 6 = lastW := by
 unfold pgRd at h
 rw [if_pos hl] at h
 split at h
 ·cases h
 ·split at h
  ·next hw =>
   cases ho : pgOk (pgOf xs)
   ·rw [pgWs_no ho] at hw
    rw [<- hw] at hl
    cases hl
   ·rw [<- hw, pgWs_yes ho]
    rfl
  ·cases h
theorem cut_page {a : Nat} (ha : a + 7 <= ws.length) (ho : win ws a 7 = onesW 7) (hp : pgOk pg = true) (hm : m < 7) (h1 : (pgRd (win (stopW ws (pgWs pg) a m p) a 7)).2 = 1) : (pgRd (win (stopW ws (pgWs pg) a m p) a 7)).1 = pg := by
 have h7 : (pgWs pg).length = 7 := by rw [pgWs_yes hp]; rfl
 have hw := fun i => stopW_wd (ws := ws) (l := pgWs pg) (a := a) (n := m) (p := p) (by rw [h7]; exact ha) (by rw [h7]; exact hm) i
 have hon : ∀ j, j < 7 -> wd ws (a + j) = 4294967295#32 := fun j hj => wd_of_win ho hj
 obtain ⟨us, hus⟩ : ∃ us, us = stopW ws (pgWs pg) a m p := ⟨_, rfl⟩
 rw [<- hus] at h1 hw ⊢
 have hul : us.length = ws.length := by rw [hus, stopW_len]
 have hwl : (win us a 7).length = 7 := win_len (by omega)
 have h6 := pg_last hwl h1
 rw [wd_win (by omega), hw] at h6
 have hm6 : m = 6 := by
  apply Classical.byContradiction
  intro hne
  rw [if_neg (by omega), if_neg (by omega), hon 6 (by omega)] at h6
  exact absurd h6 (by decide)
 subst hm6
 rw [if_neg (by omega), if_pos rfl] at h6
 have e : win us a 7 = pgWs pg := by
  apply List.ext_getElem?
  intro j
  by_cases hj : j < 7
  ·rw [wd_get (ws := win us a 7) (by omega), wd_get (ws := pgWs pg) (by omega), wd_win hj, hw]
   by_cases h6' : j < 6
   ·rw [if_pos (by omega), hon j hj, show a + j - a = j by omega, ones_all, BitVec.allOnes_and]
   ·obtain rfl : j = 6 := by omega
    rw [if_neg (by omega), if_pos rfl, h6, pgWs_yes hp]
    rfl
  ·rw [List.getElem?_eq_none (by omega), List.getElem?_eq_none (by omega)]
 rw [e, pgRd_ws hp]
theorem cut_block (hl : ws.length = k * 64) (hb : b < k) (hi : i < 8) (hh : (bkOf (chunk ws b)).head = 1) (hk : nm (bkOf (chunk ws b)).kinds i = 0) (hp : pgOk pg = true) (hm : m < 7) :
  ∃ t q, bkOf (chunk (stopW ws (pgWs pg) (64 * b + 4 + 7 * i) m p) b) = { bkOf (chunk ws b) with kinds := (bkOf (chunk ws b)).kinds.set i t, pages := (bkOf (chunk ws b)).pages.set i q } /\ (t = 1 -> q = pg) := by
 have h7 : (pgWs pg).length = 7 := by rw [pgWs_yes hp]; rfl
 have hones : win ws (64 * b + 4 + 7 * i) 7 = onesW 7 := by
  rw [vk_kind _ _ hi, if_pos hh] at hk
  exact pgRd_zero hk
 have hcut := fun h => cut_page (ws := ws) (p := p) (a := 64 * b + 4 + 7 * i) (by omega) hones hp hm h
 have hg := fun j => stopW_get (ws := ws) (l := pgWs pg) (a := 64 * b + 4 + 7 * i) (n := m) (p := p) (by rw [h7]; omega) (by rw [h7]; exact hm) j
 obtain ⟨us, hus⟩ : ∃ us, us = stopW ws (pgWs pg) (64 * b + 4 + 7 * i) m p := ⟨_, rfl⟩
 rw [<- hus] at hcut hg ⊢
 have hw4 : win us (64 * b) 4 = win ws (64 * b) 4 := win_congr fun j hj => by rw [hg, if_neg (by omega), if_neg (by omega)]
 have hwj : ∀ j, j < 8 -> j ≠ i -> win us (64 * b + 4 + 7 * j) 7 = win ws (64 * b + 4 + 7 * j) 7 := fun j hj e => win_congr fun r hr => by rw [hg, if_neg (by omega), if_neg (by omega)]
 rw [bkOf_win] at hh
 have hh' : (hdRd (win ws (64 * b) 4)).2 = 1 := hh
 refine ⟨(pgRd (win us (64 * b + 4 + 7 * i) 7)).2, (pgRd (win us (64 * b + 4 + 7 * i) 7)).1, ?_, hcut⟩
 have e1 : (List.range 8).map (fun j => if (1 : Int) = 1 then (pgRd (win us (64 * b + 4 + 7 * j) 7)).2 else 2) = ((List.range 8).map (fun j => if (1 : Int) = 1 then (pgRd (win ws (64 * b + 4 + 7 * j) 7)).2 else 2)).set i (pgRd (win us (64 * b + 4 + 7 * i) 7)).2 := by
  rw [range8_set (fun j => if (1 : Int) = 1 then (pgRd (win ws (64 * b + 4 + 7 * j) 7)).2 else 2) _ hi (fun j hj e => by rw [hwj j hj e])]
  rfl
 have e2 : (List.range 8).map (fun j => if (1 : Int) = 1 then (pgRd (win us (64 * b + 4 + 7 * j) 7)).1 else pg0) = ((List.range 8).map (fun j => if (1 : Int) = 1 then (pgRd (win ws (64 * b + 4 + 7 * j) 7)).1 else pg0)).set i (pgRd (win us (64 * b + 4 + 7 * i) 7)).1 := by
  rw [range8_set (fun j => if (1 : Int) = 1 then (pgRd (win ws (64 * b + 4 + 7 * j) 7)).1 else pg0) _ hi (fun j hj e => by rw [hwj j hj e])]
  rfl
 rw [bkOf_win us b, bkOf_win ws b, hw4, hh', e1, e2]
structure CutTo (k b : Nat) (d d' : DrvM) : Prop where
 ok : DrvOk k d'
 up : d'.f.chip.up = false
 endure : d'.f.chip.endure = d.f.chip.endure
 wear : ∀ j, nm d'.f.chip.wear j <= nm d.f.chip.wear j + 1
 far : ∀ j, j < k -> j ≠ b -> chunk d'.f.chip.ws j = chunk d.f.chip.ws j
theorem put_cut (h : Live k d) (hb : b < k) (hi : i < 8) (hh : (bkOf (chunk d.f.chip.ws b)).head = 1) (hk : nm (bkOf (chunk d.f.chip.ws b)).kinds i = 0) (hp : pgOk pg = true) (hm : m < 7) (hl : d.f.chip.left = (m : Int) + 1) (x : StoM) :
  (mPut d x b i pg).2.2 = 4 /\ CutTo k b d (mPut d x b i pg).1 /\ ∃ t q, bkOf (chunk (mPut d x b i pg).1.f.chip.ws b) = { bkOf (chunk d.f.chip.ws b) with kinds := (bkOf (chunk d.f.chip.ws b)).kinds.set i t, pages := (bkOf (chunk d.f.chip.ws b)).pages.set i q } /\ (t = 1 -> q = pg) := by
 have hwl := h.ok.ok.chip.words
 have hk2 := h.ok.ok.chip.k2
 have h7 : (pgWs pg).length = 7 := by rw [pgWs_yes hp]; rfl
 obtain ⟨e1, e2⟩ := dProgram_cut (pgWs pg) h (64 * b + 4 + 7 * i) m (by rw [h7]; omega) (by rw [h7]; exact hm) hl
 have ea : pgAt (b : Int) (i : Int) = ((64 * b + 4 + 7 * i : Nat) : Int) := by
  unfold pgAt
  rw [if_pos (by omega)]
  omega
 have ep : mPut d x b i pg = ((dProgram d ((64 * b + 4 + 7 * i : Nat) : Int) (pgWs pg)).1, x, 4) := by
  unfold mPut
  rw [ea]
  dsimp only
  rw [if_pos (by rw [e1]; decide), e1]
 have hok : DrvOk k (dProgram d ((64 * b + 4 + 7 * i : Nat) : Int) (pgWs pg)).1 := program_calm (pgWs pg) _ h.ok
 rw [ep]
 dsimp only
 refine ⟨rfl, ⟨hok, ?_, ?_, fun j => ?_, fun j hj hne => ?_⟩, ?_⟩
 ·rw [e2]; rfl
 ·rw [e2]; rfl
 ·rw [e2]
  show nm d.f.chip.wear j <= _
  omega
 ·rw [e2]
  show chunk (stopW _ _ _ _ _) j = _
  refine bkOf_congr fun r hr => ?_
  rw [stopW_get (by rw [h7]; omega) (by rw [h7]; exact hm), if_neg (by omega), if_neg (by omega)]
 ·rw [e2]
  exact cut_block hwl hb hi hh hk hp hm
theorem remake_cut (h : Live k d) (hb : b < k) (hs : Safe d.f.chip.ws b) (hw : nm d.f.chip.wear b < d.f.chip.endure) (hm : m < 6) (hl : d.f.chip.left = (m : Int) + 1) (x : StoM) (hc : U (ncM x.bs b) <= 2147483648) :
  (mRemake d x b).2.2 = 4 /\ CutTo k b d (mRemake d x b).1 /\ Was d.f.chip.ws (mRemake d x b).1.f.chip.ws b := by
 have hwl := h.ok.ok.chip.words
 have hok := remake_calm h.ok x b
 have hsub : ∀ w q : BitVec 32, partB w (w &&& 0#32) q &&& w = partB w (w &&& 0#32) q := fun w q => by
  apply BitVec.eq_of_getLsbD_eq
  intro i hi
  unfold partB
  simp only [BitVec.getLsbD_or, BitVec.getLsbD_and, BitVec.getLsbD_not, BitVec.getLsbD_zero, hi, decide_true, Bool.true_and, Bool.and_false, Bool.false_and, Bool.or_false]
  cases w.getLsbD i <;> cases q.getLsbD i <;> rfl
 obtain ⟨c, hcc⟩ : ∃ c, c = ncM x.bs b := ⟨_, rfl⟩
 have ea : ((b : Int) * 64 + 3) = ((64 * b + 3 : Nat) : Int) := by omega
 have ea2 : ((b : Int) * 64) = ((64 * b : Nat) : Int) := by omega
 by_cases hm0 : m = 0
 ·subst hm0
  obtain ⟨e1, e2⟩ := dProgram_cut [0#32] h (64 * b + 3) 0 (by simp; omega) (by simp) hl
  have er : mRemake d x b = ((dProgram d ((64 * b + 3 : Nat) : Int) [0#32]).1, x, 4) := by
   unfold mRemake
   rw [ea]
   dsimp only
   rw [if_pos (by rw [e1]; decide), e1]
  rw [er] at hok ⊢
  dsimp only at hok ⊢
  have es : stopW d.f.chip.ws [0#32] (64 * b + 3) 0 d.f.chip.pick = d.f.chip.ws.set (64 * b + 3) (partB (wd d.f.chip.ws (64 * b + 3)) (wd d.f.chip.ws (64 * b + 3) &&& 0#32) d.f.chip.pick) := by
   unfold stopW
   rw [List.take_zero, andW_nil]
   rfl
  refine ⟨rfl, ⟨hok, by rw [e2]; rfl, by rw [e2]; rfl, fun j => by rw [e2]; show nm d.f.chip.wear j <= _; omega, fun j hj hne => ?_⟩, ?_⟩
  ·rw [e2]
   show chunk (stopW _ _ _ _ _) j = _
   rw [es]
   refine bkOf_congr fun r hr => ?_
   rw [List.getElem?_set_ne (by omega)]
  ·rw [e2]
   show Was _ (stopW _ _ _ _ _) b
   rw [es]
   exact hs.unmark (by omega) _ (hsub _ _)
 ·have hr : Room 1 d.f.chip := .inr (by omega)
  obtain ⟨mo, e1, L1⟩ := dProgram_live [0#32] h hr (64 * b + 3) (by simp; omega)
  have l1 : ([0#32] : List (BitVec 32)).length = 1 := rfl
  rw [l1] at e1
  obtain ⟨d1, hd1⟩ : ∃ d1, d1 = after d mo 1 (andW d.f.chip.ws (64 * b + 3) [0#32]) := ⟨_, rfl⟩
  rw [<- hd1] at e1
  rw [e1] at L1
  replace L1 : Live k d1 := L1
  have c1 : d1.f.chip.left = (m : Int) := by
   rw [hd1]
   show burn 1 d.f.chip = _
   unfold burn
   rw [if_neg (by omega), hl]
   omega
  have w1 : d1.f.chip.wear = d.f.chip.wear := by rw [hd1]; rfl
  have n1 : d1.f.chip.endure = d.f.chip.endure := by rw [hd1]; rfl
  have s1 : d1.f.chip.ws = d.f.chip.ws.set (64 * b + 3) (wd d.f.chip.ws (64 * b + 3) &&& 0#32) := by
   rw [hd1]
   show andW d.f.chip.ws (64 * b + 3) [0#32] = _
   rw [andW_cons, andW_nil]
  have hl1 : d1.f.chip.ws.length = k * 64 := L1.ok.ok.chip.words
  have f0 : wd d1.f.chip.ws (64 * b) &&& firstW = firstW := by
   rw [s1, wd_setS _ _ _ _ (by omega)]
   exact hs.first (by omega)
  have f3 : wd d1.f.chip.ws (64 * b + 3) = 0#32 := by
   rw [s1]
   unfold wd
   rw [List.getD_eq_getElem?_getD, List.getElem?_set_self (by omega)]
   show wd d.f.chip.ws (64 * b + 3) &&& 0#32 = 0#32
   exact BitVec.and_zero
  have far1 : ∀ j, j < k -> j ≠ b -> chunk d1.f.chip.ws j = chunk d.f.chip.ws j := fun j hj hne => by
   rw [s1]
   refine bkOf_congr fun r hr => ?_
   rw [List.getElem?_set_ne (by omega)]
  by_cases hm1 : m = 1
  ·obtain ⟨e2, e3⟩ := dErase_cut L1 (by omega) b hb (by rw [w1, n1]; exact hw)
   have er : mRemake d x b = ((dErase d1 b).1, { x with bs := x.bs.set b blkT }, 4) := by
    unfold mRemake
    rw [ea, e1]
    dsimp only
    rw [if_neg (by decide), if_pos (by rw [e2]; decide), e2]
   rw [er] at hok ⊢
   dsimp only at hok ⊢
   refine ⟨rfl, ⟨hok, by rw [e3]; rfl, by rw [e3]; exact n1, fun j => ?_, fun j hj hne => ?_⟩, ?_⟩
   ·rw [e3]
    show nm (d1.f.chip.wear.set b (nm d1.f.chip.wear b + 1)) j <= _
    rw [w1, nm_set _ _ _ _ (by rw [h.ok.ok.chip.wears]; exact hb)]
    split
    ·next e => rw [e]; omega
    ·omega
   ·rw [e3, <- far1 j hj hne]
    show chunk (eraseTo _ _ _ _) j = _
    refine chunk_wd (eraseTo_length _ _ _ _) fun r hr => ?_
    rw [erase_wd _ _ _ _ (by omega), if_neg (by omega)]
   ·rw [e3]
    obtain ⟨g1, g2⟩ := Safe.erase (b := b) (by omega) f0 f3 d1.f.chip.pick
    exact .dub g1 g2
  ·have hr2 : Room 1 d1.f.chip := .inr (by omega)
   obtain ⟨e2, L2⟩ := dErase_live L1 hr2 b hb (by rw [w1, n1]; exact hw)
   obtain ⟨d2, hd2⟩ : ∃ d2, d2 = (dErase d1 b).1 := ⟨_, rfl⟩
   have e2' : dErase d1 b = (d2, 0) := by rw [hd2, e2]
   rw [<- hd2] at L2
   have c2 : d2.f.chip.left = ((m - 2 : Nat) : Int) + 1 := by
    rw [hd2, e2]
    show burn 1 d1.f.chip = _
    unfold burn
    rw [if_neg (by omega), c1]
    omega
   have w2 : d2.f.chip.wear = d1.f.chip.wear.set b (nm d1.f.chip.wear b + 1) := by rw [hd2, e2]
   have n2 : d2.f.chip.endure = d1.f.chip.endure := by rw [hd2, e2]
   have s2 : d2.f.chip.ws = eraseTo d1.f.chip.ws b 64 4294967295#32 := by rw [hd2, e2]
   have hl2 : d2.f.chip.ws.length = k * 64 := L2.ok.ok.chip.words
   rw [<- hcc] at hc
   have h4 : (hdWs c).length = 4 := by rw [hdWs_yes hc]; rfl
   have ho : ∀ i, i < 64 -> wd d2.f.chip.ws (64 * b + i) = 4294967295#32 := fun i hi => by
    have := wd_get (ws := d2.f.chip.ws) (i := 64 * b + i) (by omega)
    rw [s2, erased_get, if_pos (by omega)] at this
    rw [s2]
    exact (Option.some.inj this).symm
   obtain ⟨e3, e4⟩ := dProgram_cut (hdWs c) L2 (64 * b) (m - 2) (by rw [h4]; omega) (by rw [h4]; omega) c2
   have er : mRemake d x b = ((dProgram d2 ((64 * b : Nat) : Int) (hdWs c)).1, { x with bs := x.bs.set b blkT }, 4) := by
    unfold mRemake
    rw [ea, e1]
    dsimp only
    rw [if_neg (by decide), e2']
    dsimp only
    rw [if_neg (by decide), ea2, <- hcc, if_pos (by rw [e3]; decide), e3]
   rw [er] at hok ⊢
   dsimp only at hok ⊢
   refine ⟨rfl, ⟨hok, by rw [e4]; rfl, by rw [e4]; exact n2.trans n1, fun j => ?_, fun j hj hne => ?_⟩, ?_⟩
   ·rw [e4]
    show nm d2.f.chip.wear j <= _
    rw [w2, w1, nm_set _ _ _ _ (by rw [h.ok.ok.chip.wears]; exact hb)]
    split
    ·next e => rw [e]; omega
    ·omega
   ·rw [e4, <- far1 j hj hne]
    show chunk (stopW _ _ _ _ _) j = _
    refine bkOf_congr fun r hr => ?_
    rw [stopW_get (by rw [h4]; omega) (by rw [h4]; omega), if_neg (by omega), if_neg (by omega), s2, erased_get, if_neg (by omega)]
   ·rw [e4]
    exact header_cut (by omega) ho hc (by omega) _
end
end
section
open Go.RowKit Bm Go.Shelf
def NoNeed (bs : List BlkM) (b : Nat) : Prop := ∀ y ∈ cnt bs, y.b = (b : Int) -> ∃ z ∈ cnt bs, z.b ≠ (b : Int) /\ z.p.s = y.p.s /\ U y.p.q <= U z.p.q
section
variable {k b i m : Nat} {bs bs' : List BlkM} {A A' : PageM -> Prop}
theorem needed_of (h : NoNeed bs b) : lNeeded (cnt bs) (b : Int) = [] := by
 unfold lNeeded
 rw [List.filter_eq_nil_iff]
 intro x hx hn
 rw [Bool.and_eq_true, decide_eq_true_eq] at hn
 obtain ⟨hb, hn⟩ := hn
 obtain ⟨z, hz, hzb, hs, hq⟩ := h x hx hb
 unfold lNeeds at hn
 rw [List.all_eq_true] at hn
 have h1 := hn z hz
 unfold beats at h1
 rw [Bool.not_eq_true', decide_eq_false_iff_not] at h1
 refine h1 ⟨hs, fun e => hzb (e.1.trans hb), ?_⟩
 by_cases e : U x.p.q < U z.p.q
 ·exact .inl e
 ·exact .inr ⟨U_inj (by omega), .inl (by rw [hb]; exact hzb)⟩
theorem of_needed (h : lNeeded (cnt bs) (b : Int) = []) : NoNeed bs b := by
 have hbeat : ∀ x ∈ cnt bs, x.b = (b : Int) -> ∃ y ∈ cnt bs, beats y x = true := fun x hx hb => by
  unfold lNeeded at h
  rw [List.filter_eq_nil_iff] at h
  have h1 := h x hx
  rw [Bool.and_eq_true, decide_eq_true_eq] at h1
  have h2 : lNeeds (cnt bs) x ≠ true := fun e => h1 ⟨hb, e⟩
  unfold lNeeds at h2
  rw [ne_eq, Bool.not_eq_true, List.all_eq_false] at h2
  obtain ⟨y, hy, h3⟩ := h2
  exact ⟨y, hy, by simpa using h3⟩
 intro y hy hyb
 obtain ⟨t, ht⟩ : ∃ t, best (cnt bs) y.p.s = some t := by
  cases e : best (cnt bs) y.p.s with
  | none => exact absurd rfl ((best_none _ _).1 e y hy)
  | some t => exact ⟨t, rfl⟩
 obtain ⟨t1, t2, t3⟩ := best_some _ _ _ ht
 have key : ∀ (n : Nat) (x : PlM), x ∈ cnt bs -> x.p.s = y.p.s -> U y.p.q <= U x.p.q -> (∀ z ∈ cnt bs, z.p.s = y.p.s -> U z.p.q <= U x.p.q) -> x.i < (n : Int) -> ∃ z ∈ cnt bs, z.b ≠ (b : Int) /\ z.p.s = y.p.s /\ U y.p.q <= U z.p.q := by
  intro n
  induction n with
  | zero =>
    intro x hx _ _ _ hi
    obtain ⟨c, j, _, _, _, rfl⟩ := mem_cnt.1 hx
    exact absurd hi (by show ¬ ((j : Int) < ((0 : Nat) : Int)); omega)
  | succ n ih =>
    intro x hx hs hq hm hi
    by_cases hb : x.b = (b : Int)
    ·obtain ⟨z, hz, hbz⟩ := hbeat x hx hb
     unfold beats at hbz
     rw [decide_eq_true_eq] at hbz
     obtain ⟨g1, g2, g3⟩ := hbz
     have hzs : z.p.s = y.p.s := g1.trans hs
     have hzq := hm z hz hzs
     rcases g3 with g3 | ⟨g3, g4⟩
     ·omega
     ·rcases g4 with g4 | g4
      ·exact ⟨z, hz, fun e => g4 (e.trans hb.symm), hzs, by rw [g3]; exact hq⟩
      ·exact ih z hz hzs (by rw [g3]; exact hq) (fun w hw hws => by rw [g3]; exact hm w hw hws) (by omega)
    ·exact ⟨x, hx, hb, hs, hq⟩
 exact key 1000000 t t1 t2 (t3 y hy rfl) t3 (by
  obtain ⟨c, j, _, hj, _, rfl⟩ := mem_cnt.1 t1
  show (j : Int) < ((1000000 : Nat) : Int)
  omega)
def SameTop (A A' : PageM -> Prop) : Prop := ∀ s p, TopP A s p ↔ TopP A' s p
theorem same_congr (h : ∀ p, A p ↔ A' p) : SameTop A A' := fun _ _ => top_congr fun z _ => h z
theorem same_un (hu : UnP A) (h : SameTop A A') : UnP A' := fun s p r hp hr => hu s p r ((h s p).2 hp) ((h s r).2 hr)
theorem same_val (hu : UnP (PgS bs)) (h : SameTop (PgS bs) (PgS bs')) (s : BitVec 32) : Val bs' s = Val bs s := by
 have hu' := same_un hu h
 rcases top_or hu s with ⟨p, hp⟩ | hn
 ·rw [val_top hu hp, val_top hu' ((h s p).1 hp)]
 ·rcases top_or hu' s with ⟨p, hp⟩ | hn'
  ·have := (h s p).2 hp
   exact absurd this.sec (hn p this.mem)
  ·rw [val_none hn, val_none hn']
theorem same_copies (ms : PageM -> Prop) (h : ∀ p, A' p ↔ A p \/ ms p) (hm : ∀ z, ms z -> ∃ p, TopP A z.s p /\ (z = p \/ U z.q < U p.q)) : SameTop A A' := by
 intro s p
 constructor
 ·intro t
  refine ⟨(h p).2 (.inl t.mem), t.sec, fun z hz he => ?_⟩
  rcases (h z).1 hz with hz | hz
  ·exact t.max z hz he
  ·obtain ⟨r, hr, hq⟩ := hm z hz
   have h1 := t.max r hr.mem (hr.sec.trans he)
   rcases hq with rfl | hq <;> omega
 ·intro t
  have hmax : ∀ z, A z -> z.s = s -> U z.q <= U p.q := fun z hz he => t.max z ((h z).2 (.inl hz)) he
  rcases (h p).1 t.mem with hp | hp
  ·exact ⟨hp, t.sec, hmax⟩
  ·obtain ⟨r, hr, hq⟩ := hm p hp
   rcases hq with e | hq
   ·refine ⟨?_, t.sec, hmax⟩
    rw [e]
    exact hr.mem
   ·have h1 := hmax r hr.mem (hr.sec.trans t.sec)
    omega
theorem same_drop (hu : UnP (PgS bs)) (hn : NoNeed bs b) (h : ∀ p, PgS bs' p ↔ OutS bs b p) : SameTop (PgS bs) (PgS bs') := by
 intro s p
 constructor
 ·intro t
  have hout : OutS bs b p := by
   obtain ⟨y, hy, rfl⟩ := t.mem
   by_cases hb : y.b = (b : Int)
   ·obtain ⟨z, hz, hzb, hs, hq⟩ := hn y hy hb
    have tz : TopP (PgS bs) s z.p := ⟨⟨z, hz, rfl⟩, hs.trans t.sec, fun w hw he => by have := t.max w hw he; omega⟩
    exact ⟨z, hz, hzb, hu s _ _ tz t⟩
   ·exact ⟨y, hy, hb, rfl⟩
  exact ⟨(h p).2 hout, t.sec, fun z hz he => t.max z (out_in ((h z).1 hz)) he⟩
 ·intro t
  refine ⟨out_in ((h p).1 t.mem), t.sec, fun z hz he => ?_⟩
  obtain ⟨y, hy, rfl⟩ := hz
  by_cases hb : y.b = (b : Int)
  ·obtain ⟨w, hw, hwb, hs, hq⟩ := hn y hy hb
   have := t.max w.p ((h _).2 ⟨w, hw, hwb, rfl⟩) (hs.trans he)
   omega
  ·exact t.max y.p ((h _).2 ⟨y, hy, hb, rfl⟩) he
def putT (bs : List BlkM) (b i : Nat) (t : Int) (q : PageM) : List BlkM := bs.set b { bkN bs b with kinds := (bkN bs b).kinds.set i t, pages := (bkN bs b).pages.set i q }
theorem mem_putT {t : Int} {q : PageM} (hb : b < bs.length) (hk : BlkOk (bkN bs b)) (hi : i < 8) (h0 : nm (bkN bs b).kinds i = 0) {y : PlM} : y ∈ cnt (putT bs b i t q) ↔ (t = 1 /\ y = ⟨b, i, q⟩) \/ y ∈ cnt bs := by
 by_cases ht : t = 1
 ·subst ht
  have e : putT bs b i 1 q = putB bs b i q := rfl
  rw [e, mem_putB hb hk hi h0]
  constructor
  ·rintro (h | h)
   ·exact .inl ⟨rfl, h⟩
   ·exact .inr h
  ·rintro (⟨_, h⟩ | h)
   ·exact .inl h
   ·exact .inr h
 ·have hN : ∀ c, bkN (putT bs b i t q) c = if c = b then { bkN bs b with kinds := (bkN bs b).kinds.set i t, pages := (bkN bs b).pages.set i q } else bkN bs c := fun c => bkN_set hb
  have hkl : i < (bkN bs b).kinds.length := by rw [hk.k]; exact hi
  have hpl : i < (bkN bs b).pages.length := by rw [hk.p]; exact hi
  have hlen : (putT bs b i t q).length = bs.length := by simp [putT]
  rw [mem_cnt, mem_cnt, hlen]
  constructor
  ·rintro ⟨c, j, hc, hj, h1, rfl⟩
   rw [hN] at h1 ⊢
   by_cases e : c = b
   ·subst e
    rw [if_pos rfl] at h1 ⊢
    rw [show ({ bkN bs c with kinds := (bkN bs c).kinds.set i t, pages := (bkN bs c).pages.set i q } : BlkM).kinds = (bkN bs c).kinds.set i t from rfl, nm_set _ _ _ _ hkl] at h1
    by_cases ej : j = i
    ·rw [if_pos ej] at h1
     exact absurd h1 ht
    ·rw [if_neg ej] at h1
     refine .inr ⟨c, j, hc, hj, h1, ?_⟩
     rw [show ({ bkN bs c with kinds := (bkN bs c).kinds.set i t, pages := (bkN bs c).pages.set i q } : BlkM).pages = (bkN bs c).pages.set i q from rfl, pgN_set _ _ _ _ hpl, if_neg ej]
   ·rw [if_neg e] at h1 ⊢
    exact .inr ⟨c, j, hc, hj, h1, rfl⟩
  ·rintro (⟨h, _⟩ | ⟨c, j, hc, hj, h1, rfl⟩)
   ·exact absurd h ht
   ·refine ⟨c, j, hc, hj, ?_, ?_⟩
    ·rw [hN]
     by_cases e : c = b
     ·subst e
      rw [if_pos rfl, show ({ bkN bs c with kinds := (bkN bs c).kinds.set i t, pages := (bkN bs c).pages.set i q } : BlkM).kinds = (bkN bs c).kinds.set i t from rfl, nm_set _ _ _ _ hkl, if_neg]
      ·exact h1
      ·intro ej
       rw [ej, h0] at h1
       cases h1
     ·rw [if_neg e]
      exact h1
    ·rw [hN]
     by_cases e : c = b
     ·subst e
      rw [if_pos rfl, show ({ bkN bs c with kinds := (bkN bs c).kinds.set i t, pages := (bkN bs c).pages.set i q } : BlkM).pages = (bkN bs c).pages.set i q from rfl, pgN_set _ _ _ _ hpl, if_neg]
      intro ej
      rw [ej, h0] at h1
      cases h1
     ·rw [if_neg e]
theorem mem_setN {c : BlkM} (hb : b < bs.length) (hc : ∀ i, i < 8 -> nm c.kinds i ≠ 1) {y : PlM} : y ∈ cnt (bs.set b c) ↔ y ∈ cnt bs /\ y.b ≠ (b : Int) := by
 rw [mem_cnt, mem_cnt, List.length_set]
 constructor
 ·rintro ⟨e, j, he, hj, h1, ey⟩
  rw [bkN_set hb] at h1 ey
  by_cases eb : e = b
  ·rw [if_pos eb] at h1
   exact absurd h1 (hc j hj)
  ·rw [if_neg eb] at h1 ey
   subst ey
   exact ⟨⟨e, j, he, hj, h1, rfl⟩, by show (e : Int) ≠ (b : Int); omega⟩
 ·rintro ⟨⟨e, j, he, hj, h1, rfl⟩, hne⟩
  have eb : e ≠ b := fun h => hne (by show (e : Int) = (b : Int); rw [h])
  refine ⟨e, j, he, hj, ?_, ?_⟩
  ·rw [bkN_set hb, if_neg eb]
   exact h1
  ·rw [bkN_set hb, if_neg eb]
theorem head_kinds {ws : List (BitVec 32)} (h : (bkOf (chunk ws b)).head ≠ 1) (i : Nat) (hi : i < 8) : nm (bkOf (chunk ws b)).kinds i ≠ 1 := by
 rw [vk_kind _ _ hi, if_neg h]
 decide
theorem empty_none {c : BlkM} (h : bkEmpty c = true) (i : Nat) (hi : i < 8) : nm c.kinds i ≠ 1 := by
 rw [empty_iff] at h
 rw [h.2 i hi]
 decide
theorem noneed_empty (h : ∀ i, i < 8 -> nm (bkN bs b).kinds i ≠ 1) : NoNeed bs b := by
 intro y hy hyb
 obtain ⟨c, j, hc, hj, h1, rfl⟩ := mem_cnt.1 hy
 have hyb' : (c : Int) = (b : Int) := hyb
 obtain rfl : c = b := by omega
 exact absurd h1 (h j hj)
end
end
section
open Go.RowKit Bm Go.Shelf
structure Rest (k : Nat) (Q W : Int) (c : ChipM) (V : BitVec 32 -> List (BitVec 32)) : Prop where
 un : UnP (PgS (viewOf k c.ws))
 sec : ∀ p, PgS (viewOf k c.ws) p -> U p.s < (((k - 3) * 6 : Nat) : Int)
 seq : ∀ p, PgS (viewOf k c.ws) p -> U p.q <= Q
 wear : ∀ b, nm c.wear b <= W
 en : c.endure <= 2147483648
 val : ∀ s, Val (viewOf k c.ws) s = V s
 safe : ∀ b, b < k -> Safe c.ws b
 mode : (∃ b, b < k /\ NoNeed (viewOf k c.ws) b /\ ∀ j, j < k -> (bkN (viewOf k c.ws) j).head = 1) \/ (∃ b, b < k /\ (bkN (viewOf k c.ws) b).head ≠ 1 /\ ∀ j, j < k -> j ≠ b -> (bkN (viewOf k c.ws) j).head = 1)
structure Gone (k : Nat) (Q W : Int) (d d' : DrvM) (V : BitVec 32 -> List (BitVec 32)) : Prop where
 ok : DrvOk k d'
 up : d'.f.chip.up = false
 endure : d'.f.chip.endure = d.f.chip.endure
 rest : Rest k Q W d'.f.chip V
theorem mPuts_app (l1 : List ((Nat × Nat) × PageM)) : ∀ (l2 : List ((Nat × Nat) × PageM)) (d : DrvM) (x : StoM), (mPuts d x l1).2.2 = 0 -> mPuts d x (l1 ++ l2) = mPuts (mPuts d x l1).1 (mPuts d x l1).2.1 l2 := by
 induction l1 with
 | nil =>
   intro l2 d x _
   rw [List.nil_append, mPuts_nil]
 | cons z l1 ih =>
   intro l2 d x h
   by_cases hz : (mPut d x z.1.1 z.1.2 z.2).2.2 = 0
   ·rw [mPuts_go hz] at h
    rw [List.cons_append, mPuts_go hz, mPuts_go hz]
    exact ih l2 _ _ h
   ·rw [mPuts_stop1 hz] at h
    exact absurd h hz
section
variable {C : Prop} {k b : Nat} {Q W W' : Int} {d d' : DrvM} {x x' : StoM} {V V' : BitVec 32 -> List (BitVec 32)} {c : ChipM}
theorem Rest.weaken {Q' : Int} (h : Rest k Q W c V) (hQ : Q <= Q') (hW : W <= W') : Rest k Q' W' c V :=
 ⟨h.un, h.sec, fun p hp => by have := h.seq p hp; omega, fun b => by have := h.wear b; omega, h.en, h.val, h.safe, h.mode⟩
theorem Gone.weaken {Q' : Int} (h : Gone k Q W d d' V) (hQ : Q <= Q') (hW : W <= W') : Gone k Q' W' d d' V := ⟨h.ok, h.up, h.endure, h.rest.weaken hQ hW⟩
theorem puts_free (l : List ((Nat × Nat) × PageM)) : ∀ {d : DrvM} {x : StoM}, Sys k d x -> Frees x (l.map (·.1)) -> (∀ z ∈ l, pgOk z.2 = true) -> Room (7 * l.length) d.f.chip -> ∀ {d1 : DrvM} {x1 : StoM}, mPuts d x l = (d1, x1, 0) -> ∀ {w : Nat × Nat}, nm (bkN x.bs w.1).kinds w.2 = 0 -> w ∉ l.map (·.1) -> nm (bkN x1.bs w.1).kinds w.2 = 0 := by
 induction l with
 | nil =>
   intro d x h _ _ _ d1 x1 e w hw _
   rw [mPuts_nil] at e
   obtain ⟨_, rfl, _⟩ : d = d1 /\ x = x1 /\ True := by
    injection e with e1 e2
    injection e2 with e2 _
    exact ⟨e1, e2, trivial⟩
   exact hw
 | cons z l ih =>
   intro d x h hf hp hr d1 x1 e w hw hn
   rw [List.length_cons, show 7 * (l.length + 1) = 7 + 7 * l.length by omega] at hr
   obtain ⟨h1, h2, h3, h4⟩ := hf.free z.1 (List.mem_cons_self)
   have hzk : z.1.1 < k := by rw [<- sys_len h]; exact h1
   obtain ⟨d2, e1, s1, sp1⟩ := h.put (hr.less (by omega)) hzk h2 h3 h4 (hp z List.mem_cons_self)
   obtain ⟨x2, hx2⟩ : ∃ x2 : StoM, x2 = { x with bs := putB x.bs z.1.1 z.1.2 z.2 } := ⟨_, rfl⟩
   rw [<- hx2] at e1 s1
   have hb1 : x2.bs = putB x.bs z.1.1 z.1.2 z.2 := by rw [hx2]
   have hok := sys_okN h hzk
   have hnd := hf.nodup
   rw [List.map_cons, List.nodup_cons] at hnd
   rw [List.map_cons, List.mem_cons, not_or] at hn
   have hf1 : Frees x2 (l.map (·.1)) := ⟨hnd.2, fun w hw => by
    obtain ⟨g1, g2, g3, g4⟩ := hf.free w (List.mem_cons_of_mem _ hw)
    rw [hb1, putB_len, putB_head h1, putB_kind h1 hok h2]
    refine ⟨g1, g2, g3, ?_⟩
    rw [if_neg]
    ·exact g4
    ·rintro ⟨e1, e2⟩
     refine hnd.1 ?_
     have : w = z.1 := Prod.ext e1 e2
     rw [<- this]
     exact hw⟩
   rw [mPuts_go (by rw [e1]), e1] at e
   refine ih s1 hf1 (fun w hw => hp w (List.mem_cons_of_mem _ hw)) (room_after sp1.left hr) e ?_ hn.2
   rw [hb1, putB_kind h1 hok h2, if_neg]
   ·exact hw
   ·rintro ⟨e1, e2⟩
    exact hn.1 (Prod.ext e1 e2)
theorem moves_copy (h : Fit C k Q W d x) (hQ : Q < 2147483648) {m : PageM} (hm : m ∈ mvAll k x b) : ∃ y ∈ cnt x.bs, TopP (PgS x.bs) m.s y.p /\ (m = y.p \/ U m.q < U y.p.q) := by
 have hq : ∀ p, PgS x.bs p -> U p.q < 2147483648 := fun p hp => by have := h.seq p hp; omega
 obtain ⟨_, r, hr, hrs, hrq⟩ := moves_ok h.un (fun p hp => h.right hp) hq hm
 cases moves_keep (b := b) (k := k) (x := x) h.k2 h.un (fun p hp => h.right hp) h.sec hq m.s ⟨r, hr, hrs⟩ with
 | else_ h1 _ => exact absurd rfl (h1 m hm)
 | gone p h1 _ _ _ => exact absurd rfl (h1 m hm)
 | moved p m' hm' hs hun ht he hlt =>
   obtain rfl := hun m hm rfl
   obtain ⟨y, hy, rfl⟩ := ht.mem
   have h1 := ht.max r hr hrs
   refine ⟨y, hy, ht, ?_⟩
   by_cases e : U m.q < U y.p.q
   ·exact .inr e
   ·left
    have e2 : m.q = y.p.q := U_inj (by omega)
    rw [he, e2]
theorem Fit.rest (h : Fit C k Q W d x) (hQ : Q < 2147483648) {l : List ((Nat × Nat) × PageM)} (hl : ∀ z ∈ l, z.2 ∈ mvAll k x b) (hcnt : ∀ y, y ∈ cnt (viewOf k c.ws) ↔ y ∈ cnt x.bs \/ ∃ z ∈ l, y = ⟨z.1.1, z.1.2, z.2⟩)
  (hhead : ∀ j, j < k -> (bkN (viewOf k c.ws) j).head = 1) (hw : ∀ j, nm c.wear j <= W') (hen : c.endure <= 2147483648) : Rest k Q W' c (Val x.bs) := by
 have hpg : ∀ p, PgS (viewOf k c.ws) p ↔ PgS x.bs p \/ ∃ z ∈ l, p = z.2 := fun p => by
  constructor
  ·rintro ⟨y, hy, rfl⟩
   rcases (hcnt y).1 hy with h1 | ⟨z, hz, rfl⟩
   ·exact .inl ⟨y, h1, rfl⟩
   ·exact .inr ⟨z, hz, rfl⟩
  ·rintro (⟨y, hy, rfl⟩ | ⟨z, hz, rfl⟩)
   ·exact ⟨y, (hcnt y).2 (.inl hy), rfl⟩
   ·exact ⟨⟨z.1.1, z.1.2, z.2⟩, (hcnt _).2 (.inr ⟨z, hz, rfl⟩), rfl⟩
 have hst : SameTop (PgS x.bs) (PgS (viewOf k c.ws)) := same_copies (fun p => ∃ z ∈ l, p = z.2) hpg (by
  rintro _ ⟨z, hz, rfl⟩
  obtain ⟨y, _, ht, hq⟩ := moves_copy h hQ (hl z hz)
  exact ⟨y.p, ht, hq⟩)
 obtain ⟨t, ht, hte⟩ := h.emp
 refine ⟨same_un h.un hst, fun p hp => ?_, fun p hp => ?_, hw, hen, fun s => same_val h.un hst s, fun j hj => .inl (by rw [<- view_N hj]; exact hhead j hj), .inl ⟨t, ht, ?_, hhead⟩⟩
 ·rcases (hpg p).1 hp with h1 | ⟨z, hz, rfl⟩
  ·exact h.sec p h1
  ·obtain ⟨y, _, hty, _⟩ := moves_copy h hQ (hl z hz)
   rw [<- hty.sec]
   exact h.sec _ hty.mem
 ·rcases (hpg p).1 hp with h1 | ⟨z, hz, rfl⟩
  ·exact h.seq p h1
  ·obtain ⟨y, _, hty, hq⟩ := moves_copy h hQ (hl z hz)
   have := h.seq _ hty.mem
   rcases hq with e | e
   ·rw [e]; exact this
   ·omega
 ·have hno : ∀ y ∈ cnt x.bs, y.b ≠ (t : Int) := fun y hy e => by
   obtain ⟨j, i, hj, hi, h1, rfl⟩ := mem_cnt.1 hy
   have e' : (j : Int) = (t : Int) := e
   obtain rfl : j = t := by omega
   exact empty_none hte i hi h1
  intro y hy hyt
  rcases (hcnt y).1 hy with h1 | ⟨z, hz, rfl⟩
  ·exact absurd hyt (hno y h1)
  ·obtain ⟨w, hw', hty, hq⟩ := moves_copy h hQ (hl z hz)
   refine ⟨w, (hcnt w).2 (.inl hw'), hno w hw', hty.sec, ?_⟩
   show U z.2.q <= U w.p.q
   rcases hq with e | e
   ·rw [e]; exact Int.le_refl _
   ·omega
theorem view_cut {i : Nat} {t : Int} {q : PageM} (hs : Sys k d x) (hb : b < k) (ct : CutTo k b d d') (e : bkOf (chunk d'.f.chip.ws b) = { bkOf (chunk d.f.chip.ws b) with kinds := (bkOf (chunk d.f.chip.ws b)).kinds.set i t, pages := (bkOf (chunk d.f.chip.ws b)).pages.set i q }) : viewOf k d'.f.chip.ws = putT x.bs b i t q := by
 rw [view_set hb ct.far, e]
 unfold putT
 rw [hs.view, view_N hb]
theorem putT_head {bs : List BlkM} {i : Nat} {t : Int} {q : PageM} (hb : b < bs.length) (j : Nat) : (bkN (putT bs b i t q) j).head = (bkN bs j).head := by
 unfold putT
 rw [bkN_set hb]
 split
 ·next e => rw [e]
 ·rfl
theorem Fit.reclaim_cut (h : Fit C k Q W d x) (hQ : Q < 2147483648) (hW : W < d.f.chip.endure) (hb : b < k) (hf : fitsM x b (mvAll k x b) = true) (h0 : 0 <= d.f.chip.left) (hr : ¬ Room (7 * (mvAll k x b).length + 6) d.f.chip) :
  (mReclaim d x b (mvAll k x b)).2.2 = 4 /\ Gone k Q (W + 1) d (mReclaim d x b (mvAll k x b)).1 (Val x.bs) := by
 have hl := h.len
 have hlen := fits_len h hb hf
 have hq : ∀ p, PgS x.bs p -> U p.q < 2147483648 := fun p hp => by have := h.seq p hp; omega
 have hokm : ∀ m ∈ mvAll k x b, pgOk m = true /\ ∃ p, PgS x.bs p /\ p.s = m.s /\ U m.q <= U p.q := fun m hm => moves_ok h.un (fun p hp => h.right hp) hq hm
 have hkeep := fun s hex => moves_keep (b := b) (k := k) (x := x) h.k2 h.un (fun p hp => h.right hp) h.sec hq s hex
 have hok' := reclaim_calm h.sys.live.ok x b (mvAll k x b)
 obtain ⟨m, hm, hleft⟩ := not_room hr h0
 obtain ⟨l, hL⟩ : ∃ l, l = (spotsM x (b : Int)).zip (mvAll k x b) := ⟨_, rfl⟩
 have hll : l.length = (mvAll k x b).length := by rw [hL, List.length_zip]; omega
 have hl1 : l.map (·.1) = (spotsM x (b : Int)).take (mvAll k x b).length := by rw [hL]; exact zip_fst _ _ hlen
 have hl2 : l.map (·.2) = mvAll k x b := by rw [hL]; exact zip_snd _ _ hlen
 have hsp : ∀ z ∈ l, z.1 ∈ spotsM x (b : Int) := fun z hz => by
  have : z.1 ∈ l.map (·.1) := List.mem_map.2 ⟨z, hz, rfl⟩
  rw [hl1] at this
  exact List.mem_of_mem_take this
 have hms2 : ∀ z ∈ l, z.2 ∈ mvAll k x b := fun z hz => by
  have : z.2 ∈ l.map (·.2) := List.mem_map.2 ⟨z, hz, rfl⟩
  rwa [hl2] at this
 have hne : ∀ z ∈ l, z.1.1 ≠ b := fun z hz e => by
  have := (spots_is (hsp z hz)).2.2.2.1
  rw [e] at this
  exact this rfl
 have hnd : (l.map (·.1)).Nodup := by rw [hl1]; exact (spots_nodup x _).sublist (List.take_sublist _ _)
 have hfree : ∀ z ∈ l.map (·.1), z.1 < x.bs.length /\ z.2 < 8 /\ (bkN x.bs z.1).head = 1 /\ nm (bkN x.bs z.1).kinds z.2 = 0 := fun z hz => by
  rw [hl1] at hz
  obtain ⟨g1, _, g3, _, g5, g6⟩ := spots_is (List.mem_of_mem_take hz)
  exact ⟨g1, g3, g5, g6⟩
 have hmr : mReclaim d x b (mvAll k x b) = if (mPuts d x l).2.2 ≠ 0 then mPuts d x l else mRenew (mPuts d x l).1 (mPuts d x l).2.1 b := by
  unfold mReclaim
  rw [<- hL]
 by_cases hcase : m < 7 * (mvAll k x b).length
 ·
  obtain ⟨j, hj⟩ : ∃ j, j = m / 7 := ⟨_, rfl⟩
  have hjl : j < l.length := by omega
  obtain ⟨z, l2, hsplit⟩ : ∃ z l2, l = l.take j ++ z :: l2 := ⟨l[j], l.drop (j + 1), by rw [<- List.drop_eq_getElem_cons hjl, List.take_append_drop]⟩
  have ht : (l.take j).length = j := by rw [List.length_take]; omega
  have hzl : z ∈ l := by rw [hsplit]; exact List.mem_append_right _ List.mem_cons_self
  have htl : ∀ w ∈ l.take j, w ∈ l := fun w hw => List.mem_of_mem_take hw
  have hfr : Frees x ((l.take j).map (·.1)) := ⟨by rw [List.map_take]; exact hnd.sublist (List.take_sublist _ _), fun w hw => by
   rw [List.map_take] at hw
   exact hfree w (List.mem_of_mem_take hw)⟩
  obtain ⟨d1, x1, e1, s1, sp1, pu⟩ := Sys.puts (l.take j) h.sys (.inr (by rw [ht, hleft]; omega)) hfr (fun w hw => (hokm _ (hms2 w (htl w hw))).1)
  have hzf := hfree z.1 (List.mem_map.2 ⟨z, hzl, rfl⟩)
  have hzk : z.1.1 < k := by rw [<- hl]; exact hzf.1
  have hz1 : z.1.1 < x1.bs.length := by rw [pu.len]; exact hzf.1
  have hok1 := sys_okN s1 hzk
  have hnotin : z.1 ∉ (l.take j).map (·.1) := by
   intro hin
   have h9 : (l.take j).map (·.1) ++ (z :: l2).map (·.1) = l.map (·.1) := by rw [<- List.map_append, <- hsplit]
   rw [<- h9] at hnd
   exact (List.nodup_append.1 hnd).2.2 _ hin _ (by rw [List.map_cons]; exact List.mem_cons_self) rfl
  have hk1 : nm (bkN x1.bs z.1.1).kinds z.1.2 = 0 := by
   apply Classical.byContradiction
   intro hne1
   exact hne1 (puts_free (l.take j) h.sys hfr (fun w hw => (hokm _ (hms2 w (htl w hw))).1) (.inr (by rw [ht, hleft]; omega)) e1 hzf.2.2.2 hnotin)
  have hh1 : (bkN x1.bs z.1.1).head = 1 := by rw [pu.head]; exact hzf.2.2.1
  have hleft1 : d1.f.chip.left = ((m - 7 * j : Nat) : Int) + 1 := by
   rw [sp1.left, ht]
   unfold burn
   rw [if_neg (by omega), hleft]
   omega
  have hv1 : bkOf (chunk d1.f.chip.ws z.1.1) = bkN x1.bs z.1.1 := by rw [s1.view, view_N hzk]
  obtain ⟨c1, c2, t, q, c3, c4⟩ := put_cut s1.live hzk hzf.2.1 (by rw [hv1]; exact hh1) (by rw [hv1]; exact hk1) (hokm _ (hms2 z hzl)).1 (m := m - 7 * j) (by omega) hleft1 x1
  have hview := view_cut s1 hzk c2 c3
  have em : mPuts d x l = mPut d1 x1 z.1.1 z.1.2 z.2 := by
   rw [hsplit, mPuts_app _ _ _ _ (by rw [e1]), e1, mPuts_stop1 (by rw [c1]; decide)]
  have er : mReclaim d x b (mvAll k x b) = mPut d1 x1 z.1.1 z.1.2 z.2 := by
   rw [hmr, em, if_pos (by rw [c1]; decide)]
  rw [er] at hok' ⊢
  refine ⟨c1, hok', c2.up, c2.endure.trans sp1.endure, ?_⟩
  obtain ⟨l', hl', hcnt⟩ : ∃ l' : List ((Nat × Nat) × PageM), (∀ w ∈ l', w ∈ l) /\ ∀ y, y ∈ cnt (viewOf k (mPut d1 x1 z.1.1 z.1.2 z.2).1.f.chip.ws) ↔ y ∈ cnt x.bs \/ ∃ w ∈ l', y = ⟨w.1.1, w.1.2, w.2⟩ := by
   by_cases ht1 : t = 1
   ·refine ⟨z :: l.take j, fun w hw => (List.mem_cons.1 hw).elim (fun e => by rw [e]; exact hzl) (htl w), fun y => ?_⟩
    rw [hview, mem_putT hz1 hok1 hzf.2.1 hk1, pu.mem, c4 ht1]
    constructor
    ·rintro (⟨_, e⟩ | e | ⟨w, hw, e⟩)
     ·exact .inr ⟨z, List.mem_cons_self, e⟩
     ·exact .inl e
     ·exact .inr ⟨w, List.mem_cons_of_mem _ hw, e⟩
    ·rintro (e | ⟨w, hw, e⟩)
     ·exact .inr (.inl e)
     ·rcases List.mem_cons.1 hw with rfl | hw
      ·exact .inl ⟨ht1, e⟩
      ·exact .inr (.inr ⟨w, hw, e⟩)
   ·refine ⟨l.take j, htl, fun y => ?_⟩
    rw [hview, mem_putT hz1 hok1 hzf.2.1 hk1, pu.mem]
    constructor
    ·rintro (⟨e, _⟩ | e)
     ·exact absurd e ht1
     ·exact e
    ·exact .inr
  refine h.rest hQ (fun w hw => hms2 w (hl' w hw)) hcnt (fun c hc => ?_) (fun c => ?_) ?_
  ·rw [hview, putT_head hz1, pu.head]
   exact h.head c hc
  ·have := c2.wear c
   rw [sp1.wear] at this
   have := h.wear c
   omega
  ·rw [c2.endure, sp1.endure]
   exact h.en
 ·
  obtain ⟨d1, x1, e1, s1, sp1, pu⟩ := Sys.puts l h.sys (.inr (by rw [hll, hleft]; omega)) ⟨hnd, hfree⟩ (fun w hw => (hokm _ (hms2 w hw)).1)
  have hleft1 : d1.f.chip.left = ((m - 7 * l.length : Nat) : Int) + 1 := by
   rw [sp1.left]
   unfold burn
   rw [if_neg (by omega), hleft]
   omega
  have hb1 : b < x1.bs.length := by rw [pu.len, hl]; exact hb
  have hhd1 : ∀ c, c < k -> (bkN x1.bs c).head = 1 := fun c hc => by rw [pu.head]; exact h.head c hc
  have hsafe : Safe d1.f.chip.ws b := .inl (by rw [<- view_N (k := k) hb, <- s1.view]; exact hhd1 b hb)
  obtain ⟨c1, c2, c3⟩ := remake_cut s1.live hb hsafe (by rw [sp1.wear, sp1.endure]; have := h.wear b; omega) (m := m - 7 * l.length) (by omega) hleft1 x1 (by rw [s1.view]; exact nc_le hb)
  have er : mReclaim d x b (mvAll k x b) = mRemake d1 x1 b := by
   rw [hmr, e1, if_neg (fun h => h rfl)]
   unfold mRenew
   dsimp only
   rw [if_neg (by rw [c1]; decide)]
  rw [er] at hok' ⊢
  refine ⟨c1, hok', c2.up, c2.endure.trans sp1.endure, ?_⟩
  have hwear : ∀ c, nm (mRemake d1 x1 b).1.f.chip.wear c <= W + 1 := fun c => by
   have := c2.wear c
   rw [sp1.wear] at this
   have := h.wear c
   omega
  have hen : (mRemake d1 x1 b).1.f.chip.endure <= 2147483648 := by
   rw [c2.endure, sp1.endure]
   exact h.en
  have hview : viewOf k (mRemake d1 x1 b).1.f.chip.ws = x1.bs.set b (bkOf (chunk (mRemake d1 x1 b).1.f.chip.ws b)) := by
   rw [view_set hb c2.far, s1.view]
  have hmx : ∀ m ∈ mvAll k x b, ∃ z, PgS x.bs z /\ z.s = m.s := fun m hm => by
   obtain ⟨p, h1, h2, _⟩ := (hokm m hm).2
   exact ⟨p, h1, h2⟩
  have htop : ∀ s, (∃ z, PgS x.bs z /\ z.s = s) -> ∃ p, TopP (PgS x.bs) s p := fun s ⟨z, hz, he⟩ => (top_or h.un s).elim id fun hn => absurd he (hn z hz)
  have hmex : ∀ m ∈ mvAll k x b, ∃ z ∈ l, z.2 = m := fun m hm => by
   rw [<- hl2] at hm
   exact List.mem_map.1 hm
  have hfarN : ∀ c, c ≠ b -> bkN (viewOf k (mRemake d1 x1 b).1.f.chip.ws) c = bkN x1.bs c := fun c hc => by
   rw [hview, bkN_set hb1, if_neg hc]
  have hown : bkN (viewOf k (mRemake d1 x1 b).1.f.chip.ws) b = bkOf (chunk (mRemake d1 x1 b).1.f.chip.ws b) := view_N hb
  have hout : (∀ i, i < 8 -> nm (bkOf (chunk (mRemake d1 x1 b).1.f.chip.ws b)).kinds i ≠ 1) -> UnP (PgS (viewOf k (mRemake d1 x1 b).1.f.chip.ws)) /\ (∀ s, Val (viewOf k (mRemake d1 x1 b).1.f.chip.ws) s = Val x.bs s) /\ (∀ p, PgS (viewOf k (mRemake d1 x1 b).1.f.chip.ws) p -> U p.s < (((k - 3) * 6 : Nat) : Int) /\ U p.q <= Q) := fun hno => by
   have hmem : ∀ y, y ∈ cnt (viewOf k (mRemake d1 x1 b).1.f.chip.ws) ↔ (y ∈ cnt x.bs \/ ∃ z ∈ l, y = ⟨z.1.1, z.1.2, z.2⟩) /\ y.b ≠ (b : Int) := fun y => by rw [hview, mem_setN hb1 hno, pu.mem]
   have hpg : ∀ p, PgS (viewOf k (mRemake d1 x1 b).1.f.chip.ws) p ↔ OutS x.bs b p \/ p ∈ mvAll k x b := fun p => by
    constructor
    ·rintro ⟨y, hy, rfl⟩
     obtain ⟨h1 | ⟨z, hz, e⟩, h2⟩ := (hmem y).1 hy
     ·exact .inl ⟨y, h1, h2, rfl⟩
     ·rw [e]
      exact .inr (hms2 z hz)
    ·rintro (⟨y, h1, h2, rfl⟩ | hp)
     ·exact ⟨y, (hmem y).2 ⟨.inl h1, h2⟩, rfl⟩
     ·obtain ⟨z, hz, rfl⟩ := hmex p hp
      exact ⟨⟨z.1.1, z.1.2, z.2⟩, (hmem _).2 ⟨.inr ⟨z, hz, rfl⟩, by
       show (z.1.1 : Int) ≠ (b : Int)
       have := hne z hz
       omega⟩, rfl⟩
   have hun := un_kept h.un (fun z hz => out_in hz) hpg hkeep hmx htop
   refine ⟨hun, fun s => val_kept h.un hun (fun z hz => out_in hz) hpg hmx (fun p hp hg => ok_gone (h.right hp) hg) s (hkeep s), fun p hp => ?_⟩
   rcases (hpg p).1 hp with h1 | h1
   ·exact ⟨h.sec p (out_in h1), h.seq p (out_in h1)⟩
   ·obtain ⟨r, g1, g2, g3⟩ := (hokm p h1).2
    refine ⟨?_, Int.le_trans g3 (h.seq r g1)⟩
    rw [<- g2]
    exact h.sec r g1
  have hsafes : ∀ c, c < k -> Safe (mRemake d1 x1 b).1.f.chip.ws c := fun c hc => by
   by_cases e : c = b
   ·rw [e]; exact c3.safe hsafe
   ·exact .inl (by rw [<- view_N (k := k) hc, hfarN c e]; exact hhd1 c hc)
  cases c3 with
  | same e =>
    have hv : viewOf k (mRemake d1 x1 b).1.f.chip.ws = x1.bs := by
     rw [hview, e, <- view_N (k := k) hb, <- s1.view]
     apply List.ext_getElem?
     intro j
     by_cases ej : j = b
     ·rw [ej, List.getElem?_set_self hb1, bkN_get hb1]
     ·rw [List.getElem?_set_ne (Ne.symm ej)]
    refine h.rest hQ hms2 (fun y => by rw [hv, pu.mem]) (fun c hc => by rw [hv]; exact hhd1 c hc) hwear hen
  | dub e1 e2 =>
    obtain ⟨g1, g2, g3⟩ := hout fun i hi => head_kinds e1 i hi
    refine ⟨g1, fun p hp => (g3 p hp).1, fun p hp => (g3 p hp).2, hwear, hen, g2, hsafes, .inr ⟨b, hb, by rw [hown]; exact e1, fun c hc hne => by rw [hfarN c hne]; exact hhd1 c hc⟩⟩
  | empty c0 e1 e2 =>
    have hno : ∀ i, i < 8 -> nm (bkOf (chunk (mRemake d1 x1 b).1.f.chip.ws b)).kinds i ≠ 1 := fun i _ => by rw [e2, blkG_kind]; decide
    obtain ⟨g1, g2, g3⟩ := hout hno
    refine ⟨g1, fun p hp => (g3 p hp).1, fun p hp => (g3 p hp).2, hwear, hen, g2, hsafes, .inl ⟨b, hb, noneed_empty (by rw [hown]; exact hno), fun c hc => ?_⟩⟩
    by_cases e : c = b
    ·rw [e, hown, e2]; rfl
    ·rw [hfarN c e]; exact hhd1 c hc
end
end
section
open Go.RowKit Bm Go.Shelf
section
variable {C : Prop} {k b : Nat} {Q W W' : Int} {d d' : DrvM} {x x' : StoM} {V V' : BitVec 32 -> List (BitVec 32)} {c : ChipM}
theorem put_wear {i m : Nat} {pg : PageM} (h : Live k d) (hb : b < k) (hi : i < 8) (hp : pgOk pg = true) (hm : m < 7) (hl : d.f.chip.left = (m : Int) + 1) (x : StoM) : (mPut d x b i pg).1.f.chip.wear = d.f.chip.wear := by
 have hk2 := h.ok.ok.chip.k2
 have h7 : (pgWs pg).length = 7 := by rw [pgWs_yes hp]; rfl
 obtain ⟨e1, e2⟩ := dProgram_cut (pgWs pg) h (64 * b + 4 + 7 * i) m (by rw [h7]; omega) (by rw [h7]; exact hm) hl
 have ea : pgAt (b : Int) (i : Int) = ((64 * b + 4 + 7 * i : Nat) : Int) := by
  unfold pgAt
  rw [if_pos (by omega)]
  omega
 unfold mPut
 rw [ea]
 dsimp only
 rw [if_pos (by rw [e1]; decide), e2]
 rfl
def newV (pg : PageM) (V : BitVec 32 -> List (BitVec 32)) (s : BitVec 32) : List (BitVec 32) := if s = pg.s then valOf.d4OfM pg else V s
theorem Fit.done_cut (h : Fit C k Q W d x) (hQ : Q < 2147483647) (hQ0 : 0 <= Q) (k5 : 5 <= k) {pg : PageM} (hp : pgOk { pg with q := 1#32 } = true) (hs : U pg.s < (((k - 3) * 6 : Nat) : Int)) (hno : ¬ (roomyM x = false /\ (cheapM x (mvOf (allG x.bs) ((k - 3) * 6))).2 = true)) (h0 : 0 <= d.f.chip.left) (hr : ¬ Room 7 d.f.chip) :
  (mLast d x pg).2.2 = 4 /\ (Gone k (Q + 1) W d (mLast d x pg).1 (Val x.bs) \/ Gone k (Q + 1) W d (mLast d x pg).1 (newV pg (Val x.bs))) := by
 have hl := h.len
 have htot := h.tot
 have hnum := spots_all h.ret
 rw [hl] at hnum
 obtain ⟨z, L, hz⟩ : ∃ z L, spotsM x (-1) = z :: L := by
  cases hc : spotsM x (-1) with
  | nil => rw [hc, List.length_nil] at hnum; omega
  | cons z L => exact ⟨z, L, rfl⟩
 obtain ⟨e0, he0, hez, hee⟩ := h.other (by omega) k5 hz hno
 obtain ⟨q1, q2, q3⟩ := last_q x pg h.seq hQ hQ0
 have hpo : pgOk (lastP x pg) = true := by
  obtain ⟨q9, hq9⟩ : ∃ q9, lastP x pg = { pg with q := q9 } := ⟨_, rfl⟩
  rw [hq9] at q1 q2 ⊢
  have q1' : 1 <= U q9 := q1
  have q2' : U q9 <= Q + 1 := q2
  exact ok_with hp (q := q9) q1' (by omega)
 obtain ⟨g1, _, g3, _, g5, g6⟩ := spots_is (x := x) (wo := -1) (z := z) (by rw [hz]; exact List.mem_cons_self)
 have hzk : z.1 < k := by rw [<- hl]; exact g1
 have hok := sys_okN h.sys hzk
 obtain ⟨m, hm, hleft⟩ := not_room hr h0
 have hv1 : bkOf (chunk d.f.chip.ws z.1) = bkN x.bs z.1 := by rw [h.sys.view, view_N hzk]
 obtain ⟨c1, c2, t, q, c3, c4⟩ := put_cut h.sys.live hzk g3 (by rw [hv1]; exact g5) (by rw [hv1]; exact g6) hpo hm hleft x
 have hview := view_cut h.sys hzk c2 c3
 have er : mLast d x pg = mPut d x z.1 z.2 (lastP x pg) := by
  unfold mLast
  rw [hz, mLastL_cons hpo]
 rw [er]
 refine ⟨c1, ?_⟩
 have hsec := last_s x pg
 have hd := last_d x pg
 obtain ⟨us, hus⟩ : ∃ us, us = viewOf k (mPut d x z.1 z.2 (lastP x pg)).1.f.chip.ws := ⟨_, rfl⟩
 rw [<- hus] at hview
 have hhead : ∀ j, j < k -> (bkN us j).head = 1 := fun j hj => by rw [hview, putT_head g1]; exact h.head j hj
 have hsafe : ∀ j, j < k -> Safe (mPut d x z.1 z.2 (lastP x pg)).1.f.chip.ws j := fun j hj => .inl (by rw [<- view_N (k := k) hj, <- hus]; exact hhead j hj)
 have hemp : NoNeed us e0 := noneed_empty fun i hi => by
  rw [hview]
  unfold putT
  rw [bkN_set g1, if_neg hez]
  exact empty_none hee i hi
 have hwear : ∀ j, nm (mPut d x z.1 z.2 (lastP x pg)).1.f.chip.wear j <= W := fun j => by
  have : (mPut d x z.1 z.2 (lastP x pg)).1.f.chip.wear = d.f.chip.wear := put_wear h.sys.live hzk g3 hpo hm hleft x
  rw [this]
  exact h.wear j
 have hen : (mPut d x z.1 z.2 (lastP x pg)).1.f.chip.endure <= 2147483648 := by rw [c2.endure]; exact h.en
 by_cases ht : t = 1
 ·right
  have hpg : ∀ p, PgS us p ↔ p = lastP x pg \/ PgS x.bs p := fun p => by
   unfold PgS
   rw [hview]
   constructor
   ·rintro ⟨y, hy, rfl⟩
    rcases (mem_putT g1 hok g3 g6).1 hy with ⟨_, e⟩ | h
    ·rw [e, c4 ht]; exact .inl rfl
    ·exact .inr ⟨y, h, rfl⟩
   ·rintro (rfl | ⟨y, hy, rfl⟩)
    ·exact ⟨⟨z.1, z.2, q⟩, (mem_putT g1 hok g3 g6).2 (.inl ⟨ht, rfl⟩), c4 ht⟩
    ·exact ⟨y, (mem_putT g1 hok g3 g6).2 (.inr hy), rfl⟩
  have hlt : ∀ z, PgS x.bs z -> z.s = (lastP x pg).s -> U z.q < U (lastP x pg).q := fun z hz he => q3 z hz (he.trans hsec)
  refine ⟨c2.ok, c2.up, c2.endure, ?_⟩
  refine ⟨?_, fun p hp => ?_, fun p hp => ?_, hwear, hen, fun s => ?_, hsafe, .inl ⟨e0, he0, by rw [<- hus]; exact hemp, fun j hj => by rw [<- hus]; exact hhead j hj⟩⟩
  ·rw [<- hus]
   exact (un_new h.un hpg hlt).1
  ·rw [<- hus] at hp
   rcases (hpg p).1 hp with e | e
   ·rw [e, hsec]; exact hs
   ·exact h.sec p e
  ·rw [<- hus] at hp
   rcases (hpg p).1 hp with e | e
   ·rw [e]; exact q2
   ·have := h.seq p e
    omega
  ·rw [<- hus, val_new h.un hpg hlt s, hsec, hd]
   rfl
 ·left
  have hpg : ∀ p, PgS x.bs p ↔ PgS us p := fun p => by
   unfold PgS
   rw [hview]
   constructor
   ·rintro ⟨y, hy, rfl⟩
    exact ⟨y, (mem_putT g1 hok g3 g6).2 (.inr hy), rfl⟩
   ·rintro ⟨y, hy, rfl⟩
    rcases (mem_putT g1 hok g3 g6).1 hy with ⟨e, _⟩ | h
    ·exact absurd e ht
    ·exact ⟨y, h, rfl⟩
  have hst := same_congr hpg
  refine ⟨c2.ok, c2.up, c2.endure, ?_⟩
  refine ⟨?_, fun p hp => ?_, fun p hp => ?_, hwear, hen, fun s => ?_, hsafe, .inl ⟨e0, he0, by rw [<- hus]; exact hemp, fun j hj => by rw [<- hus]; exact hhead j hj⟩⟩
  ·rw [<- hus]
   exact same_un h.un hst
  ·rw [<- hus] at hp
   exact h.sec p ((hpg p).2 hp)
  ·rw [<- hus] at hp
   have := h.seq p ((hpg p).2 hp)
   omega
  ·rw [<- hus]
   exact same_val h.un hst s
theorem burn_left {n : Nat} {c : ChipM} (hr : Room n c) (_h0 : 0 <= c.left) : 0 <= burn n c := by
 unfold burn
 split
 ·exact Int.le_refl _
 ·rcases hr with hr | hr <;> omega
theorem fr_all {bs : List BlkM} : ∀ n, 8 * n <= totF bs n -> ∀ b, b < n -> frIn (bkN bs b) = 8
 | 0, _, b, hb => by omega
 | n + 1, h, b, hb => by
   rw [totF] at h
   have h1 := frIn_le (bkN bs n)
   have h2 := totF_le bs n
   by_cases e : b = n
   ·rw [e]; omega
   ·exact fr_all n (by omega) b (by omega)
theorem way_no (h : Fit C k Q W d x) (hQ : Q < 2147483647) {s : BitVec 32} (hno : ¬ (roomyM x = false /\ (cheapM x (mvOf (allG x.bs) ((k - 3) * 6))).2 = true)) : (wayM k x (allG x.bs) s).2 = false := by
 unfold wayM
 rw [if_neg hno, if_pos]
 rw [allG_is]
 cases hb : best (cnt x.bs) s with
 | none =>
   show U pl0.p.q < 2147483648
   decide
 | some y =>
   have := h.seq _ (top_pg (best_top hb)).mem
   show U y.p.q < 2147483648
   omega
inductive ActTo (C : Prop) (k : Nat) (Q W : Int) (pg : PageM) (d : DrvM) (V : BitVec 32 -> List (BitVec 32)) (R : DrvM × StoM × Int) : Prop
 | done : R.2.2 = 0 -> Fit C k Q W R.1 R.2.1 -> (∀ s, Val R.2.1.bs s = newV pg V s) -> 0 <= R.1.f.chip.left -> R.1.f.chip.endure = d.f.chip.endure -> ActTo C k Q W pg d V R
 | was : R.2.2 = 4 -> Gone k Q W d R.1 V -> ActTo C k Q W pg d V R
 | would : R.2.2 = 4 -> Gone k Q W d R.1 (newV pg V) -> ActTo C k Q W pg d V R
theorem Gone.congr (h : Gone k Q W d d' V) (e : ∀ s, V s = V' s) : Gone k Q W d d' V' := ⟨h.ok, h.up, h.endure, ⟨h.rest.un, h.rest.sec, h.rest.seq, h.rest.wear, h.rest.en, fun s => (h.rest.val s).trans (e s), h.rest.safe, h.rest.mode⟩⟩
theorem Gone.from {d1 : DrvM} (h : Gone k Q W d1 d' V) (e : d1.f.chip.endure = d.f.chip.endure) : Gone k Q W d d' V := ⟨h.ok, h.up, h.endure.trans e, h.rest⟩
theorem Fit.addF (k5 : 5 <= k) {pg : PageM} (hp : pgOk { pg with q := 1#32 } = true) (hs : U pg.s < (((k - 3) * 6 : Nat) : Int)) (hQ : Q < 2147483647) (hQ0 : 0 <= Q) : ∀ (n : Nat) {W : Int} {d : DrvM} {x : StoM}, Fit C k Q W d x -> 0 <= d.f.chip.left -> W + n < d.f.chip.endure -> 8 * k <= n + totF x.bs k ->
  ∃ R, AddTo k pg n d x R /\ ActTo C k (Q + 1) (W + n) pg d (Val x.bs) R := by
 have hdone : ∀ (n : Nat) {W : Int} {d : DrvM} {x : StoM}, Fit C k Q W d x -> 0 <= d.f.chip.left -> ¬ (roomyM x = false /\ (cheapM x (mvOf (allG x.bs) ((k - 3) * 6))).2 = true) -> ∃ R, AddTo k pg n d x R /\ ActTo C k (Q + 1) (W + n) pg d (Val x.bs) R := by
  intro n W d x h h0 hno
  refine ⟨mLast d x pg, .done (way_no h hQ hno), ?_⟩
  by_cases hr : Room 7 d.f.chip
  ·obtain ⟨d1, x1, e1, f1, v1, sp⟩ := h.done hQ hQ0 k5 hp hs hno hr
   rw [e1]
   refine .done rfl (f1.weaken (by omega)) v1 ?_ sp.endure
   show 0 <= d1.f.chip.left
   rw [sp.left]
   exact burn_left hr h0
  ·obtain ⟨e1, g | g⟩ := h.done_cut hQ hQ0 k5 hp hs hno h0 hr
   ·exact .was e1 (g.weaken (Int.le_refl _) (by omega))
   ·exact .would e1 (g.weaken (Int.le_refl _) (by omega))
 intro n
 induction n with
 | zero =>
   intro W d x h h0 hw ht
   have hle := totF_le8 (k := k) x
   by_cases hno : roomyM x = false /\ (cheapM x (mvOf (allG x.bs) ((k - 3) * 6))).2 = true
   ·exfalso
    obtain ⟨h1, h2, h3⟩ := cheap_is hno.2
    have hck : (cheapM x (mvOf (allG x.bs) ((k - 3) * 6))).1 < k := Nat.lt_of_lt_of_eq h1 h.len
    have := fr_all (bs := x.bs) k (by omega) _ hck
    omega
   ·exact hdone 0 h h0 hno
 | succ n ih =>
   intro W d x h h0 hw ht
   by_cases hno : roomyM x = false /\ (cheapM x (mvOf (allG x.bs) ((k - 3) * 6))).2 = true
   ·obtain ⟨h1, h2, h3⟩ := cheap_is hno.2
    obtain ⟨b, hb⟩ : ∃ b, b = (cheapM x (mvOf (allG x.bs) ((k - 3) * 6))).1 := ⟨_, rfl⟩
    rw [<- hb] at h1 h2 h3
    have hck : b < k := Nat.lt_of_lt_of_eq h1 h.len
    have hlen := fits_len h hck (ms := mvAll k x b) h3
    have hway : wayM k x (allG x.bs) pg.s = ((b : Int), true) := by
     unfold wayM
     rw [if_pos hno, hb]
    have e : (mvAll k x b).length = (mvOf (allG x.bs) ((k - 3) * 6) b).length := rfl
    by_cases hr : Room (7 * (mvAll k x b).length + 6) d.f.chip
    ·obtain ⟨d1, x1, e1, f1, v1, n1, p1, l1, t1⟩ := h.reclaim (by omega) (by omega) hck h3 hr
     obtain ⟨R, a2, r2⟩ := ih f1 (by rw [l1]; exact burn_left hr h0) (by rw [n1]; omega) (by omega)
     refine ⟨R, .more b hway hck hlen (by rw [e1]) (by rw [e1]; exact a2), ?_⟩
     have hW1 : W + 1 + (n : Int) = W + ((n + 1 : Nat) : Int) := by omega
     rw [hW1] at r2
     have hv : ∀ s, newV pg (Val x1.bs) s = newV pg (Val x.bs) s := fun s => by
      unfold newV
      rw [v1]
     cases r2 with
     | done g1 g2 g3 g4 g5 => exact .done g1 g2 (fun s => (g3 s).trans (hv s)) g4 (g5.trans n1)
     | was g1 g2 => exact .was g1 ((g2.congr v1).from n1)
     | would g1 g2 => exact .would g1 ((g2.congr hv).from n1)
    ·obtain ⟨e1, g⟩ := h.reclaim_cut (by omega) (by omega) hck h3 h0 hr
     exact ⟨mReclaim d x b (mvAll k x b), .stop b hway hck hlen (by rw [e1]; decide), .was e1 (g.weaken (by omega) (by omega))⟩
   ·exact hdone (n + 1) h h0 hno
end
end
section
open Go.RowKit Bm Go.Shelf
def tailB (x : StoM) : Option Nat := (ordN x).find? fun b => decide (lNeeded (cnt x.bs) (b : Int) = [])
def mTl (d : DrvM) (x : StoM) : DrvM × StoM × Int :=
 match tailB x with
 | some b => mRenew d x b
 | none => (d, x, 0)
theorem mTl_some {d : DrvM} {x : StoM} {b : Nat} (h : tailB x = some b) : mTl d x = mRenew d x b := by
 unfold mTl
 rw [h]
theorem mTl_none {d : DrvM} {x : StoM} (h : tailB x = none) : mTl d x = (d, x, 0) := by
 unfold mTl
 rw [h]
def mTail (d : DrvM) (x : StoM) : DrvM × StoM × Int := if x.bs.any bkEmpty = true then (d, x, 0) else mTl d x
def mRep (k : Nat) (d : DrvM) (x : StoM) : DrvM × StoM × Int :=
 if (mFix d x (List.range k)).2.2 ≠ 0 then mFix d x (List.range k) else mTail (mFix d x (List.range k)).1 (mFix d x (List.range k)).2.1
theorem mTail_calm {k : Nat} {d : DrvM} (ok : DrvOk k d) (x : StoM) : DrvOk k (mTail d x).1 := by
 unfold mTail
 split
 ·exact ok
 ·cases h : tailB x with
  | none => rw [mTl_none h]; exact ok
  | some b => rw [mTl_some h]; exact renew_calm ok x b
end
section
open Go.RowKit Bm Go.Shelf
inductive MountTo (k : Nat) (Q W : Int) (d : DrvM) (V : BitVec 32 -> List (BitVec 32)) (R : DrvM × StoM × Int) : Prop
 | done : R.2.2 = 0 -> Fit False k Q W R.1 R.2.1 -> (∀ s, Val R.2.1.bs s = V s) -> 0 <= R.1.f.chip.left -> R.1.f.chip.endure = d.f.chip.endure -> MountTo k Q W d V R
 | cut : d.f.chip.left ≠ 0 -> R.2.2 = 4 -> Gone k Q W d R.1 V -> MountTo k Q W d V R
section
variable {k b : Nat} {Q W : Int} {d d' : DrvM} {x x' : StoM} {V : BitVec 32 -> List (BitVec 32)} {c c' : ChipM}
theorem Rest.as (h : Rest k Q W c V) (h1 : c'.ws = c.ws) (h2 : c'.wear = c.wear) (h3 : c'.endure = c.endure) : Rest k Q W c' V :=
 ⟨by rw [h1]; exact h.un, by rw [h1]; exact h.sec, by rw [h1]; exact h.seq, by rw [h2]; exact h.wear, by rw [h3]; exact h.en, by rw [h1]; exact h.val, by rw [h1]; exact h.safe, by rw [h1]; exact h.mode⟩
theorem renew_rest (h : Rest k Q W d.f.chip V) (hs : Sys k d x) (hret : ∀ b, bo x.ret b = false) (hoff : x.off = false) (hb : b < k) (hn : NoNeed (viewOf k d.f.chip.ws) b) (ho : ∀ j, j < k -> j ≠ b -> (bkN (viewOf k d.f.chip.ws) j).head = 1) (hW : W < d.f.chip.endure) (h0 : 0 <= d.f.chip.left) :
  MountTo k Q (W + 1) d V (mRenew d x b) /\ ((mRenew d x b).2.2 = 0 -> bkEmpty (bkN (mRenew d x b).2.1.bs b) = true) := by
 have hl : x.bs.length = k := sys_len hs
 have hb1 : b < x.bs.length := by rw [hl]; exact hb
 by_cases hr : Room 6 d.f.chip
 ·obtain ⟨d1, e1, s1, wo⟩ := hs.remake hr hb (by have := h.wear b; omega)
  have er : mRenew d x b = (d1, { x with bs := x.bs.set b (blkG (ncM x.bs b)) }, 0) := by
   unfold mRenew
   rw [e1]
   rfl
  have hpg : ∀ p, PgS (x.bs.set b (blkG (ncM x.bs b))) p ↔ OutS x.bs b p := fun p => by
   constructor
   ·rintro ⟨y, hy, rfl⟩
    obtain ⟨g1, g2⟩ := (mem_setG hb1 _).1 hy
    exact ⟨y, g1, g2, rfl⟩
   ·rintro ⟨y, g1, g2, rfl⟩
    exact ⟨y, (mem_setG hb1 _).2 ⟨g1, g2⟩, rfl⟩
  have hv := hs.view
  have hu : UnP (PgS x.bs) := by rw [hv]; exact h.un
  have hst := same_drop hu (by rw [hv]; exact hn) hpg
  have hN : ∀ j, bkN (x.bs.set b (blkG (ncM x.bs b))) j = if j = b then blkG (ncM x.bs b) else bkN x.bs j := fun j => bkN_set hb1
  have hem : bkEmpty (bkN (x.bs.set b (blkG (ncM x.bs b))) b) = true := by
   rw [hN, if_pos rfl, empty_fr]
   rfl
  rw [er]
  refine ⟨.done rfl ⟨s1, fun j hj => ?_, hret, hoff, same_un hu hst, fun p hp => ?_, fun p hp => ?_, ⟨b, hb, hem⟩, fun j => ?_, fun hC => hC.elim, ?_⟩ (fun s => ?_) ?_ wo.endure, fun _ => hem⟩
  ·show (bkN (x.bs.set b (blkG (ncM x.bs b))) j).head = 1
   rw [hN]
   split
   ·rfl
   ·next e =>
    rw [hv]
    exact ho j hj e
  ·exact h.sec p (by rw [<- hv]; exact out_in ((hpg p).1 hp))
  ·exact h.seq p (by rw [<- hv]; exact out_in ((hpg p).1 hp))
  ·show nm d1.f.chip.wear j <= W + 1
   rw [wo.wear]
   exact set_get _ _ _ _ h.wear (by have := h.wear b; omega)
  ·show d1.f.chip.endure <= 2147483648
   rw [wo.endure]
   exact h.en
  ·rw [<- h.val s, <- hv]
   exact same_val hu hst s
  ·show 0 <= d1.f.chip.left
   rw [wo.left]
   exact burn_left hr h0
 ·obtain ⟨m, hm, hleft⟩ := not_room hr h0
  obtain ⟨c1, c2, c3⟩ := remake_cut hs.live hb (h.safe b hb) (by have := h.wear b; omega) hm hleft x (by rw [hs.view]; exact nc_le hb)
  have er : mRenew d x b = mRemake d x b := by
   unfold mRenew
   dsimp only
   rw [if_neg (by rw [c1]; decide)]
  rw [er]
  refine ⟨.cut (by omega) c1 ⟨c2.ok, c2.up, c2.endure, ?_⟩, fun e => by rw [c1] at e; cases e⟩
  have hwear : ∀ j, nm (mRemake d x b).1.f.chip.wear j <= W + 1 := fun j => by
   have := c2.wear j
   have := h.wear j
   omega
  have hen : (mRemake d x b).1.f.chip.endure <= 2147483648 := by rw [c2.endure]; exact h.en
  have hview : viewOf k (mRemake d x b).1.f.chip.ws = (viewOf k d.f.chip.ws).set b (bkOf (chunk (mRemake d x b).1.f.chip.ws b)) := view_set hb c2.far
  have hvb : b < (viewOf k d.f.chip.ws).length := by rw [view_len]; exact hb
  have hfarN : ∀ j, j ≠ b -> bkN (viewOf k (mRemake d x b).1.f.chip.ws) j = bkN (viewOf k d.f.chip.ws) j := fun j hj => by
   rw [hview, bkN_set hvb, if_neg hj]
  have hown : bkN (viewOf k (mRemake d x b).1.f.chip.ws) b = bkOf (chunk (mRemake d x b).1.f.chip.ws b) := view_N hb
  have hsafes : ∀ j, j < k -> Safe (mRemake d x b).1.f.chip.ws j := fun j hj => by
   by_cases e : j = b
   ·rw [e]; exact c3.safe (h.safe b hb)
   ·exact .inl (by rw [<- view_N (k := k) hj, hfarN j e]; exact ho j hj e)
  have hout : (∀ i, i < 8 -> nm (bkOf (chunk (mRemake d x b).1.f.chip.ws b)).kinds i ≠ 1) -> SameTop (PgS (viewOf k d.f.chip.ws)) (PgS (viewOf k (mRemake d x b).1.f.chip.ws)) /\ ∀ p, PgS (viewOf k (mRemake d x b).1.f.chip.ws) p -> PgS (viewOf k d.f.chip.ws) p := fun hno => by
   have hpg : ∀ p, PgS (viewOf k (mRemake d x b).1.f.chip.ws) p ↔ OutS (viewOf k d.f.chip.ws) b p := fun p => by
    unfold PgS
    rw [hview]
    constructor
    ·rintro ⟨y, hy, rfl⟩
     obtain ⟨g1, g2⟩ := (mem_setN hvb hno).1 hy
     exact ⟨y, g1, g2, rfl⟩
    ·rintro ⟨y, g1, g2, rfl⟩
     exact ⟨y, (mem_setN hvb hno).2 ⟨g1, g2⟩, rfl⟩
   exact ⟨same_drop h.un hn hpg, fun p hp => out_in ((hpg p).1 hp)⟩
  cases c3 with
  | same e =>
    have hv : viewOf k (mRemake d x b).1.f.chip.ws = viewOf k d.f.chip.ws := by
     rw [hview, e, <- view_N (k := k) hb]
     apply List.ext_getElem?
     intro j
     by_cases ej : j = b
     ·rw [ej, List.getElem?_set_self hvb, bkN_get hvb]
     ·rw [List.getElem?_set_ne (Ne.symm ej)]
    refine ⟨by rw [hv]; exact h.un, by rw [hv]; exact h.sec, by rw [hv]; exact h.seq, hwear, hen, by rw [hv]; exact h.val, hsafes, ?_⟩
    rw [hv]
    by_cases hh : (bkN (viewOf k d.f.chip.ws) b).head = 1
    ·refine .inl ⟨b, hb, hn, fun j hj => ?_⟩
     by_cases ej : j = b
     ·rw [ej]; exact hh
     ·exact ho j hj ej
    ·exact .inr ⟨b, hb, hh, ho⟩
  | dub e1 e2 =>
    obtain ⟨g1, g2⟩ := hout fun i hi => head_kinds e1 i hi
    exact ⟨same_un h.un g1, fun p hp => h.sec p (g2 p hp), fun p hp => h.seq p (g2 p hp), hwear, hen, fun s => (same_val h.un g1 s).trans (h.val s), hsafes, .inr ⟨b, hb, by rw [hown]; exact e1, fun j hj hne => by rw [hfarN j hne]; exact ho j hj hne⟩⟩
  | empty c0 e1 e2 =>
    have hno : ∀ i, i < 8 -> nm (bkOf (chunk (mRemake d x b).1.f.chip.ws b)).kinds i ≠ 1 := fun i _ => by rw [e2, blkG_kind]; decide
    obtain ⟨g1, g2⟩ := hout hno
    refine ⟨same_un h.un g1, fun p hp => h.sec p (g2 p hp), fun p hp => h.seq p (g2 p hp), hwear, hen, fun s => (same_val h.un g1 s).trans (h.val s), hsafes, .inl ⟨b, hb, noneed_empty (by rw [hown]; exact hno), fun j hj => ?_⟩⟩
    by_cases e : j = b
    ·rw [e, hown, e2]; rfl
    ·rw [hfarN j e]; exact ho j hj e
theorem any_empty {bs : List BlkM} (h : bs.any bkEmpty = true) : ∃ b, b < bs.length /\ bkEmpty (bkN bs b) = true := by
 rw [List.any_eq_true] at h
 obtain ⟨p, hp, he⟩ := h
 obtain ⟨i, hi, rfl⟩ := List.getElem_of_mem hp
 refine ⟨i, hi, ?_⟩
 unfold bkN
 rw [List.getD_eq_getElem?_getD, List.getElem?_eq_getElem hi]
 exact he
theorem mFix_app (l1 : List Nat) : ∀ (l2 : List Nat) (d : DrvM) (x : StoM), (mFix d x l1).2.2 = 0 -> mFix d x (l1 ++ l2) = mFix (mFix d x l1).1 (mFix d x l1).2.1 l2 := by
 induction l1 with
 | nil =>
   intro l2 d x _
   rw [List.nil_append, mFix_nil]
 | cons z l1 ih =>
   intro l2 d x h
   by_cases hz : (mFixS d x z).2.2 = 0
   ·rw [mFix_go hz] at h
    rw [List.cons_append, mFix_go hz, mFix_go hz]
    exact ih l2 _ _ h
   ·rw [mFix_stop1 hz] at h
    exact absurd h hz
theorem fix_some : ∀ l : List Nat, (∀ b ∈ l, (bkN x.bs b).head = 1) -> mFix d x l = (d, x, 0)
 | [], _ => mFix_nil d x
 | b :: l, hl => by
   have e : mFixS d x b = (d, x, 0) := if_pos (hl b List.mem_cons_self)
   rw [mFix_go (by rw [e]), e]
   exact fix_some l fun c hc => hl c (List.mem_cons_of_mem _ hc)
theorem Rest.mount (h : Rest k Q W d.f.chip V) (hL : Live k d) (k1 : 1 <= k) (hW : W < d.f.chip.endure) (h0 : 0 <= d.f.chip.left) : MountTo k Q (W + 1) d V (mRep k (dLook d) (x0 d.f.chip.ws)) := by
 have hc := look_chip hL
 have hk2 := hL.ok.ok.chip.k2
 have hwl := hL.ok.ok.chip.words
 have hv : (x0 d.f.chip.ws).bs = viewOf k d.f.chip.ws := view_sc hwl k1 hk2
 obtain ⟨x, hx⟩ : ∃ x, x = x0 d.f.chip.ws := ⟨_, rfl⟩
 rw [<- hx] at hv ⊢
 have hret : ∀ b, bo x.ret b = false := by rw [hx]; exact fun b => x0_ret _ b
 have hoff : x.off = false := by rw [hx]; rfl
 obtain ⟨dl, hdl⟩ : ∃ dl, dl = dLook d := ⟨_, rfl⟩
 rw [<- hdl] at hc ⊢
 have hs : Sys k dl x := ⟨by rw [hdl]; exact live_look hL, by rw [hc]; exact hv⟩
 have hr : Rest k Q W dl.f.chip V := by rw [hc]; exact h
 have hlen : x.bs.length = k := sys_len hs
 have hfrom : ∀ R, MountTo k Q (W + 1) dl V R -> MountTo k Q (W + 1) d V R := fun R hR => by
  have e : dl.f.chip.endure = d.f.chip.endure := by rw [hc]
  cases hR with
  | done g1 g2 g3 g4 g5 => exact .done g1 g2 g3 g4 (g5.trans e)
  | cut g0 g1 g2 => exact .cut (by rw [hc] at g0; exact g0) g1 (g2.from e)
 have hvl : viewOf k dl.f.chip.ws = x.bs := by rw [hs.view]
 have hW' : W < dl.f.chip.endure := by rw [hc]; exact hW
 have h0' : 0 <= dl.f.chip.left := by rw [hc]; exact h0
 rcases hr.mode with ⟨b, hb, hn, hall⟩ | ⟨b, hb, hd, ho⟩
 ·rw [hvl] at hn hall
  have hfix : mFix dl x (List.range k) = (dl, x, 0) := fix_some _ fun j hj => hall j (List.mem_range.1 hj)
  unfold mRep
  rw [hfix]
  dsimp only
  rw [if_neg (fun h => h rfl)]
  unfold mTail
  by_cases he : x.bs.any bkEmpty = true
  ·rw [if_pos he]
   obtain ⟨e0, he0, he1⟩ := any_empty he
   refine .done rfl ⟨hs, hall, hret, hoff, by rw [<- hvl]; exact hr.un, by rw [<- hvl]; exact hr.sec, by rw [<- hvl]; exact hr.seq, ⟨e0, by rw [<- hlen]; exact he0, he1⟩, fun j => Int.le_trans (hr.wear j) (show W <= W + 1 by omega), fun hC => hC.elim, hr.en⟩ (fun s => by rw [<- hr.val s, hvl]) h0' (by rw [hc])
  ·rw [if_neg he]
   have hmem : b ∈ ordN x := mem_ordN.2 ⟨by rw [hlen]; exact hb, hret b⟩
   have hsome : ∃ b', tailB x = some b' := by
    cases ht : tailB x with
    | some b' => exact ⟨b', rfl⟩
    | none =>
      unfold tailB at ht
      rw [List.find?_eq_none] at ht
      exact absurd (decide_eq_true (needed_of hn)) (ht b hmem)
   obtain ⟨b', hb'⟩ := hsome
   rw [mTl_some hb']
   unfold tailB at hb'
   have h1 := List.find?_some hb'
   have h2 := (mem_ordN.1 (List.mem_of_find?_eq_some hb')).1
   rw [hlen] at h2
   have hn' : NoNeed x.bs b' := of_needed (of_decide_eq_true h1)
   exact hfrom _ (renew_rest hr hs hret hoff h2 (by rw [hvl]; exact hn') (fun j hj _ => by rw [hvl]; exact hall j hj) hW' h0').1
 ·have hn : NoNeed (viewOf k dl.f.chip.ws) b := noneed_empty fun i hi => by
   rw [view_N hb] at hd ⊢
   exact head_kinds hd i hi
  obtain ⟨g1, g2⟩ := renew_rest hr hs hret hoff hb hn ho hW' h0'
  have hsplit : List.range k = List.range b ++ (b :: (List.range k).drop (b + 1)) := by
   have h1 : b < (List.range k).length := by rw [List.length_range]; exact hb
   have h2 := List.take_append_drop b (List.range k)
   rw [List.drop_eq_getElem_cons h1, List.getElem_range, List.take_range, Nat.min_eq_left (by omega)] at h2
   exact h2.symm
  have hpre : mFix dl x (List.range b) = (dl, x, 0) := fix_some _ fun j hj => by
   have := List.mem_range.1 hj
   rw [<- hvl]
   exact ho j (by omega) (by omega)
  have hstep : mFixS dl x b = mRenew dl x b := by
   unfold mFixS
   rw [if_neg (by rw [<- hvl]; exact hd)]
  have hfix0 : mFix dl x (List.range k) = mFix dl x (b :: (List.range k).drop (b + 1)) := by
   rw [hsplit, mFix_app _ _ _ _ (by rw [hpre]), hpre]
   congr 1
   rw [<- hsplit]
  unfold mRep
  rw [hfix0]
  by_cases he : (mRenew dl x b).2.2 = 0
  ·have hgood : ∀ j, j < k -> (bkN (mRenew dl x b).2.1.bs j).head = 1 := by
    cases g1 with
    | done _ f _ _ _ => exact f.head
    | cut _ e _ => rw [e] at he; cases he
   have hfix : mFix dl x (b :: (List.range k).drop (b + 1)) = ((mRenew dl x b).1, (mRenew dl x b).2.1, 0) := by
    rw [mFix_go (by rw [hstep]; exact he), hstep]
    exact fix_some _ fun j hj => hgood j (List.mem_range.1 (List.mem_of_mem_drop hj))
   rw [hfix]
   dsimp only
   rw [if_neg (fun h => h rfl)]
   unfold mTail
   have hlb : b < (mRenew dl x b).2.1.bs.length := by
    cases g1 with
    | done _ f _ _ _ => rw [f.len]; exact hb
    | cut _ e _ => rw [e] at he; cases he
   rw [if_pos (firstEm _ b hlb (g2 he))]
   have e : (mRenew dl x b) = ((mRenew dl x b).1, (mRenew dl x b).2.1, 0) := by
    rw [<- he]
   rw [<- e]
   exact hfrom _ g1
  ·have hfix : mFix dl x (b :: (List.range k).drop (b + 1)) = mRenew dl x b := by
    rw [mFix_stop1 (by rw [hstep]; exact he), hstep]
   rw [hfix, if_pos he]
   exact hfrom _ g1
end
end
section
open Go.RowKit Bm
def SeqJ {α : Type} (P : Program) (g : Nat) (lb : Array Value) (encs : α -> Array Value) (Kp : World -> World -> Prop) (xs : List α) (w : World) : Prop :=
 ∀ (fr l : Nat) (J Jx : Nat -> World -> Prop) (W : World), Below w.heap.size w W -> l < W.heap.size -> (∀ i X Y, J i X -> Below X.heap.size X Y -> J i Y) ->
   (∀ i x W1, xs[i]? = some x -> J i W1 -> YieldAt Fence.wide 0 P l (encs x) W1 fun e W' => (e = .returned (.bool true) /\ J (i + 1) W' /\ Kp W1 W') \/ (e = .returned (.bool false) /\ Jx i W' /\ W1.heap.size <= W'.heap.size)) ->
   J 0 W -> CallsIn Fence.wide fr P g (#[.func (.yield l) #[] #[]] ++ lb) W fun e W' => (∃ v, e = .returned v) /\ (J xs.length W' \/ ∃ i, i < xs.length /\ Jx i W')
structure KeepL (l : Nat) (M : List Nat) (W W' : World) : Prop where
 size : W.heap.size <= W'.heap.size
 own : W'.heap[l]? = W.heap[l]?
 marks : ∀ D ∈ M, W'.heap[D]? = W.heap[D]?
theorem KeepL.below {l : Nat} {M : List Nat} {W W' : World} (h : Below W.heap.size W W') (hl : l < W.heap.size) (hM : ∀ D ∈ M, D < W.heap.size) : KeepL l M W W' := ⟨h.size, h.block l hl, fun D hD => h.block D (hM D hD)⟩
theorem KeepL.turned {S : Nat -> Prop} {l : Nat} {M : List Nat} {W W' : World} (h : Turned S W W') (hl : l < W.heap.size) (hM : ∀ D ∈ M, D < W.heap.size) (sl : ¬ S l) (sM : ∀ D ∈ M, ¬ S D) : KeepL l M W W' := ⟨h.size, h.block l hl sl, fun D hD => h.block D (hM D hD) (sM D hD)⟩
theorem KeepL.trans {l : Nat} {M : List Nat} {W W' W'' : World} (h : KeepL l M W W') (h' : KeepL l M W' W'') : KeepL l M W W'' := ⟨Nat.le_trans h.size h'.size, h'.own.trans h.own, fun D hD => (h'.marks D hD).trans (h.marks D hD)⟩
def postJ (l : Nat) (M : List Nat) (Kp : World -> World -> Prop) (I : Nat -> World -> Prop) (Ix : Code -> Nat -> World -> Prop) (i : Nat) (W : World) : Exit -> Go.Act -> World -> Prop
 | .normal, _, W' => KeepL l M W W' /\ Kp W W' /\ I (i + 1) W'
 | .ret, _, W' => KeepL l M W W' /\ Ix .ret i W'
 | .exit id, _, W' => KeepL l M W W' /\ Ix (.exit id) i W'
 | .goto t, _, W' => KeepL l M W W' /\ Ix (.goto t) i W'
 | .panic _, _, _ => False
 | .outgrown, _, _ => False
section
variable {P : Program} {α : Type} {encs : α -> Array Value} {Kp : World -> World -> Prop} {xs : List α} {I : Nat -> World -> Prop} {Ix : Code -> Nat -> World -> Prop} {w0 W1 : World} {ro : Option Nat} {n m : Nat} {B l gf : Nat} {lb : Array Value}
 {fn : FuncId} {tmps : Array Value} {ps : Array Tmp} {assign body : Code} {db : Nat} {M : List Nat} {Q : Exit -> Go.Act -> World -> Prop} {a' : Go.Act}
theorem loop_callsJ (hL : W1.heap[l]? = some (.loop { state := .ready, pending := none, fn := fn, tmps := tmps, params := ps, assign := assign, body := body, defers := db })) (hM : ∀ D ∈ M, W1.heap[D]? = some (.deferred (some [])))
  (hseq : SeqJ P gf lb encs Kp xs w0) (hb : Below w0.heap.size w0 W1) (hKt : ∀ {A B C : World}, Kp A B -> Kp B C -> Kp A C) (hKm : ∀ X Y, Marked l X Y -> Kp X Y) (hps : ∀ x, (encs x).size = ps.size)
  (hIb : ∀ i X Y, I i X -> Below X.heap.size X Y -> I i Y) (hIm : ∀ i X Y, I i X -> Marked l X Y -> I i Y) (hIx : ∀ c i X Y, Ix c i X -> Marked l X Y -> Ix c i Y) (h0 : I 0 W1)
  (hround : ∀ i x W, (∃ r, W.heap[l]? = some (.loop r)) -> I i W -> xs[i]? = some x -> assign.wpIn (Fence.wide.inRound l) m P (Exit.then (fun a₁ W' => KeepL l M W W' /\ Kp W W' /\ I i W' /\ ∀ W2, Marked l W' W2 -> body.wpIn (Fence.wide.inRound l) m P (postJ l M Kp I Ix i W2) a₁ W2) (fun _ _ _ => False)) { tmps := (ps.zip (encs x)).foldl (fun t (p, v) => t.setIfInBounds p v) tmps, defers := [] } W)
  (hdone : ∀ W, I xs.length W -> (∀ D ∈ M, W.heap[D]? = some (.deferred (some []))) -> Q .normal a' W)
  (hstop : ∀ c i W, i < xs.length -> Ix c i W -> (∀ D ∈ M, W.heap[D]? = some (.deferred (some []))) -> c.wpIn { Fence.wide with round := ro } n P Q a' W) :
  CallsIn { Fence.wide with round := ro } (n - 1) P gf (#[.func (.yield l) #[] #[]] ++ lb) W1 (rangePost { Fence.wide with round := ro } n P l Q a') := by
 have hlW : l < W1.heap.size := (Array.getElem?_eq_some_iff.1 hL).1
 have hMW : ∀ D ∈ M, D < W1.heap.size := fun D hD => (Array.getElem?_eq_some_iff.1 (hM D hD)).1
 have hMl : ∀ D ∈ M, D ≠ l := fun D hD e => by
  have := hM D hD
  rw [e, hL] at this
  cases this
 refine (hseq (n - 1) l
  (fun i W => I i W /\ W.heap[l]? = some (.loop { state := .ready, pending := none, fn := fn, tmps := tmps, params := ps, assign := assign, body := body, defers := db }) /\ ∀ D ∈ M, W.heap[D]? = some (.deferred (some [])))
  (fun i W => ∃ c, Ix c i W /\ W.heap[l]? = some (.loop { state := .done, pending := some c, fn := fn, tmps := tmps, params := ps, assign := assign, body := body, defers := db }) /\ ∀ D ∈ M, W.heap[D]? = some (.deferred (some [])))
  W1 hb hlW
  (fun i X Y hs hg => ⟨hIb i X Y hs.1 hg, (hg.block l (Array.getElem?_eq_some_iff.1 hs.2.1).1).trans hs.2.1, fun D hD => (hg.block D (Array.getElem?_eq_some_iff.1 (hs.2.2 D hD)).1).trans (hs.2.2 D hD)⟩)
  ?_ ⟨h0, hL, hM⟩).mono ?_
 ·rintro i x W hx ⟨hi, hrl, hrm⟩
  refine ⟨fn, _, assign, body, run_yield hrl (hps x), round_out (m := m) (roundIn_of_wpIn (F := Fence.wide) trivial (wpIn_mono (hround i x W ⟨_, hrl⟩ hi hx) ?_))⟩
  rintro e a₁ W' hq
  cases e with
  | normal =>
    obtain ⟨k1, k2, k3, hbody⟩ := hq
    have hrl' := k1.own.trans hrl
    have hrm' : ∀ D ∈ M, W'.heap[D]? = some (.deferred (some [])) := fun D hD => (k1.marks D hD).trans (hrm D hD)
    refine ⟨_, run_beginRound hrl' rfl, wpIn_mono (hbody _ ⟨_, _, hrl', rfl⟩) ?_⟩
    have hlt' : l < W'.heap.size := (Array.getElem?_eq_some_iff.1 hrl').1
    have behind : ∀ (jump : Option Code) (W3 : World), KeepL l M (W'.putObj l (.loop { state := .busy, pending := none, fn := fn, tmps := tmps, params := ps, assign := assign, body := body, defers := db })) W3 ->
      W3.heap[l]? = some (.loop { state := .busy, pending := none, fn := fn, tmps := tmps, params := ps, assign := assign, body := body, defers := db }) /\
      (∀ D ∈ M, (W3.putObj l (.loop { state := if jump.isNone then .ready else .done, pending := jump, fn := fn, tmps := tmps, params := ps, assign := assign, body := body, defers := db })).heap[D]? = some (.deferred (some []))) /\
      (W3.putObj l (.loop { state := if jump.isNone then .ready else .done, pending := jump, fn := fn, tmps := tmps, params := ps, assign := assign, body := body, defers := db })).heap[l]? = some (.loop { state := if jump.isNone then .ready else .done, pending := jump, fn := fn, tmps := tmps, params := ps, assign := assign, body := body, defers := db }) := fun jump W3 hk => by
     have h1 := hk.own.trans (World.putObj_heap_same hlt')
     exact ⟨h1, fun D hD => (World.putObj_heap_other (hMl D hD)).trans ((hk.marks D hD).trans ((World.putObj_heap_other (hMl D hD)).trans (hrm' D hD))), World.putObj_heap_same (Array.getElem?_eq_some_iff.1 h1).1⟩
    have oth : ∀ (jump : Option Code) (W3 : World), KeepL l M (W'.putObj l (.loop { state := .busy, pending := none, fn := fn, tmps := tmps, params := ps, assign := assign, body := body, defers := db })) W3 ->
      W.heap.size <= (W3.putObj l (.loop { state := if jump.isNone then .ready else .done, pending := jump, fn := fn, tmps := tmps, params := ps, assign := assign, body := body, defers := db })).heap.size := fun jump W3 hk => by
     have h1 := k1.size
     have h2 := hk.size
     rw [World.putObj_size] at h2 ⊢
     omega
    rintro e a₃ W3 hp
    cases e with
    | normal =>
      obtain ⟨p1, p2, p3⟩ := hp
      obtain ⟨h1, h2, h3⟩ := behind none W3 p1
      exact ⟨_, _, run_endRound none h1, .inl ⟨rfl, ⟨hIm _ _ _ p3 ⟨_, _, h1, rfl⟩, h3, h2⟩, hKt k2 (hKt (hKm _ _ ⟨_, _, hrl', rfl⟩) (hKt p2 (hKm _ _ ⟨_, _, h1, rfl⟩)))⟩⟩
    | ret =>
      obtain ⟨p1, p2⟩ := hp
      obtain ⟨h1, h2, h3⟩ := behind (some .ret) W3 p1
      exact ⟨_, _, run_endRound (some .ret) h1, .inr ⟨rfl, ⟨.ret, hIx _ _ _ _ p2 ⟨_, _, h1, rfl⟩, h3, h2⟩, oth (some .ret) W3 p1⟩⟩
    | exit id =>
      obtain ⟨p1, p2⟩ := hp
      obtain ⟨h1, h2, h3⟩ := behind (some (.exit id)) W3 p1
      exact ⟨_, _, run_endRound (some (.exit id)) h1, .inr ⟨rfl, ⟨.exit id, hIx _ _ _ _ p2 ⟨_, _, h1, rfl⟩, h3, h2⟩, oth (some (.exit id)) W3 p1⟩⟩
    | goto t =>
      obtain ⟨p1, p2⟩ := hp
      obtain ⟨h1, h2, h3⟩ := behind (some (.goto t)) W3 p1
      exact ⟨_, _, run_endRound (some (.goto t)) h1, .inr ⟨rfl, ⟨.goto t, hIx _ _ _ _ p2 ⟨_, _, h1, rfl⟩, h3, h2⟩, oth (some (.goto t)) W3 p1⟩⟩
    | panic ch => exact hp.elim
    | outgrown => exact hp.elim
  | ret => exact hq.elim
  | exit id => exact hq.elim
  | goto t => exact hq.elim
  | panic ch => exact hq.elim
  | outgrown => exact hq.elim
 ·rintro e W2 ⟨⟨v, rfl⟩, ⟨hi, hrl, hrm⟩ | ⟨i, hlt, c, hi, hrl, hrm⟩⟩
  ·exact ⟨_, _, run_endLoop hrl (by simp), hdone _ (hIm _ _ _ hi ⟨_, _, hrl, rfl⟩) fun D hD => (World.putObj_heap_other (hMl D hD)).trans (hrm D hD)⟩
  ·exact ⟨_, _, run_endLoop hrl (by simp), hstop c i _ hlt (hIx c _ _ _ hi ⟨_, _, hrl, rfl⟩) fun D hD => (World.putObj_heap_other (hMl D hD)).trans (hrm D hD)⟩
end
section
variable {P : Program} {α : Type} {encs : α -> Array Value} {Kp : World -> World -> Prop} {xs : List α} {I : Nat -> World -> Prop} {Ix : Code -> Nat -> World -> Prop} {w0 w : World} {n m : Nat} {gf : Nat} {lb : Array Value} {g : Operand}
 {ps : Array Tmp} {assign body : Code} {Q : Exit -> Go.Act -> World -> Prop} {a : Go.Act}
theorem range_outerJ (hg : a.eval g = .func (.func gf) #[] lb) (eg : ∀ args w, (callFunc gf args).run P w = .ok (.enter gf args) w) (hseq : SeqJ P gf lb encs Kp xs w0) (hb : Below w0.heap.size w0 w) (hKt : ∀ {A B C : World}, Kp A B -> Kp B C -> Kp A C) (hKm : ∀ X Y, Marked (w.heap.size + 1) X Y -> Kp X Y) (hps : ∀ x, (encs x).size = ps.size)
  (hIb : ∀ i X Y, I i X -> Below X.heap.size X Y -> I i Y) (hIm : ∀ i X Y, I i X -> Marked (w.heap.size + 1) X Y -> I i Y) (hIx : ∀ c i X Y, Ix c i X -> Marked (w.heap.size + 1) X Y -> Ix c i Y) (h0 : ∀ W1, Below w.heap.size w W1 -> W1.heap.size = w.heap.size + 2 -> I 0 W1)
  (hround : ∀ i x W, (∃ r, W.heap[w.heap.size + 1]? = some (.loop r)) -> I i W -> xs[i]? = some x -> assign.wpIn (Fence.wide.inRound (w.heap.size + 1)) m P (Exit.then (fun a₁ W' => KeepL (w.heap.size + 1) [w.heap.size] W W' /\ Kp W W' /\ I i W' /\ ∀ W2, Marked (w.heap.size + 1) W' W2 -> body.wpIn (Fence.wide.inRound (w.heap.size + 1)) m P (postJ (w.heap.size + 1) [w.heap.size] Kp I Ix i W2) a₁ W2) (fun _ _ _ => False)) { tmps := (ps.zip (encs x)).foldl (fun t (p, v) => t.setIfInBounds p v) a.tmps, defers := [] } W)
  (hdone : ∀ W, I xs.length W -> W.heap[w.heap.size]? = some (.deferred (some [])) -> Q .normal { a with defers := { target := .collected w.heap.size, args := #[] } :: a.defers } W)
  (hstop : ∀ c i W, i < xs.length -> Ix c i W -> W.heap[w.heap.size]? = some (.deferred (some [])) -> c.wpIn Fence.wide n P Q { a with defers := { target := .collected w.heap.size, args := #[] } :: a.defers } W) :
  (Code.rangeFunc g ps assign body).wpIn Fence.wide n P Q a w := by
 refine wpIn_rangeFunc (F := Fence.wide) fun fn _ => ?_
 have hnew := World.alloc_heap_new (w.alloc (.deferred (some []))) (.loop { state := .ready, pending := none, fn := fn, tmps := a.tmps, params := ps, assign := assign, body := body, defers := w.heap.size })
 rw [World.size_alloc] at hnew
 have hrun := run_enterLoop_outer (P := P) (w := w) fn a.tmps ps assign body
 have hmk : ((w.alloc (.deferred (some []))).alloc (.loop { state := .ready, pending := none, fn := fn, tmps := a.tmps, params := ps, assign := assign, body := body, defers := w.heap.size })).heap[w.heap.size]? = some (.deferred (some [])) := (Below.heap_alloc _ _ _ (by simp)).trans (World.alloc_heap_new w _)
 have hbw := (((Below.refl _ w).alloc (Nat.le_refl _) (.deferred (some []))).alloc (by simp) (.loop { state := .ready, pending := none, fn := fn, tmps := a.tmps, params := ps, assign := assign, body := body, defers := w.heap.size }))
 have hbl := hb.trans ((((Below.refl _ w).alloc (Nat.le_refl _) (.deferred (some []))).alloc (by simp) (.loop { state := .ready, pending := none, fn := fn, tmps := a.tmps, params := ps, assign := assign, body := body, defers := w.heap.size })).mono hb.size)
 have hsz : ((w.alloc (.deferred (some []))).alloc (.loop { state := .ready, pending := none, fn := fn, tmps := a.tmps, params := ps, assign := assign, body := body, defers := w.heap.size })).heap.size = w.heap.size + 2 := by simp
 generalize (w.alloc (.deferred (some []))).alloc (.loop { state := .ready, pending := none, fn := fn, tmps := a.tmps, params := ps, assign := assign, body := body, defers := w.heap.size }) = W1 at hnew hrun hmk hbw hbl hsz
 refine ⟨w.heap.size + 1, [{ target := .collected w.heap.size, args := #[] }], W1, { target := .fn (.func gf) lb, args := #[.func (.yield (w.heap.size + 1)) #[] #[]] }, W1, gf, #[.func (.yield (w.heap.size + 1)) #[] #[]] ++ lb, W1, hrun, ?_, fun _ _ => trivial, ?_, fun h => (by cases h), ?_⟩
 ·simp only [resolve, hg]
  simp [go_sem]
 ·simp [invoke, go_sem, eg]
 ·refine loop_callsJ (ro := none) (M := [w.heap.size]) hnew ?_ hseq hbl (fun h k => hKt h k) hKm hps hIb hIm hIx (h0 _ hbw hsz) (fun i x W hr hi hx => hround i x W hr hi hx) (fun W hi hm => hdone W hi (hm _ (by simp))) (fun c i W hlt hi hm => hstop c i W hlt hi (hm _ (by simp)))
  intro D hD
  obtain rfl : D = w.heap.size := by simpa using hD
  exact hmk
end
end
section
open Go.RowKit Bm Go.Shelf
section
variable {w : World} {N s g q : Nat} {x : StoM}
set_option maxRecDepth 100000 in
set_option maxHeartbeats 4000000 in
theorem us_seqJ (Kb : Nat -> Prop) (kN : Kb N) (ks : Kb s) (kg : Kb g) (hU : UsA q s g N x w) :
  SeqJ Tryz.prog 78 #[.pointer (some ⟨N, 0, none⟩)] usE (KpU w.heap.size Kb) (usL x) w := by
 intro fr l J Jx W hW hl hJ hY h0
 have hU1 := hU.below hW
 have HU := Lib.hid hU1
 have HY := Lib.hid hY
 have HJ := Lib.hid hJ
 have H0 := Lib.hid h0
 have HWW := Lib.hid hW
 obtain ⟨n, hn⟩ : ∃ n, n = x.bs.length := ⟨_, rfl⟩
 have k2 := hU.k2
 rw [<- hn] at k2
 have HN := Lib.hid hn
 have c0 := hU1.bx.cell 0
 have c1 : W.cell? ⟨s, 1, none⟩ = some (.slice (some ⟨g, 0, none⟩) n n) := by rw [hn]; exact hU1.own.cell 1
 simp only [List.getElem?_cons_zero] at c0
 obtain ⟨i0, hin, hz0, hz1, hz2⟩ := info_parts (show (Tryz.prog.info? 3).map (fun i => (i.zero, i.size, i.bytes)) = some (some (.int .i64 0), 1, 8) by kernel_rfl)
 clear hU hU1 hW hY hJ h0 hn
 refine callsIn_of_wp Tryz.func78 rfl trivial ?_ rfl
 simp only [Tryz.ntmps78, List.size_toArray, List.length_cons, List.length_nil, Nat.reduceAdd, Nat.reduceSub, Array.replicate_succ, Array.replicate_zero, List.push_toArray, List.append_toArray, List.nil_append, List.cons_append]
 gi_wp2
 clear c0 c1
 gi_loopw [3, 12] (fun v i wr => ∃ j : Nat, j <= n /\ i = .int .i64 j /\ wr.ownsRow W.heap.size 3 1 v (flt x j).length (Ns (flt x j)) /\ Below W.heap.size W wr) (fun _ i _ => n - (intOf i).toNat)
 case atStart => exact ⟨0, Nat.zero_le _, rfl, World.ownsRow_nil _ _ _ _, Below.refl _ _⟩
 case round =>
  obtain ⟨j, hj, rfl, ho, hB⟩ := hrel
  have HO := Lib.hid ho
  have HB := Lib.hid hB
  have hU2 := HU.out.below hB
  have HU2 := Lib.hid hU2
  have c0 := hU2.bx.cell 0
  have c1 : wr.cell? ⟨s, 1, none⟩ = some (.slice (some ⟨g, 0, none⟩) n n) := by rw [HN.out]; exact hU2.own.cell 1
  simp only [List.getElem?_cons_zero] at c0
  clear ho hB hU2
  by_cases hlt : j < n
  ·have i1 : (j : Int) < (n : Int) := by omega
   have i2 : (j : Int) < 64 := by omega
   have cr : wr.cell? ⟨s, 2 + j, none⟩ = some (.bool (bo x.ret j)) := by
    rw [HU2.out.own.cell]
    unfold stoCells
    rw [List.getElem?_append_right (by simp), List.getElem?_append_left (by simp [Bs_length, HU2.out.ret]; omega)]
    simpa using Bs_get x.ret j (by rw [HU2.out.ret]; omega)
   cases hr : bo x.ret j with
   | true =>
     rw [hr] at cr
     have HF : Hid (flt x (j + 1) = flt x j) := Lib.hid (by rw [flt_succ, hr]; simp)
     clear hr
     gi_wp2
     go_roundw
     case rel => exact ⟨j + 1, by omega, by go_num, by rw [HF.out]; exact HO.out, HB.out⟩
     case measure => simp [intOf]; omega
   | false =>
     rw [hr] at cr
     have HF : Hid (flt x (j + 1) = flt x j ++ [j]) := Lib.hid (by rw [flt_succ, hr]; simp)
     have HFL : Hid ((flt x j).length <= 19) := Lib.hid (by have := flt_len x j; omega)
     clear hr
     gi_wp2_with (first
      | (gi_at_builtin; refine halt_in ?_))
     refine Lib.hid ?_
     refine wpListIn_appw (base := W.heap.size) (size := 1) (bytes := 8) (xs := Ns (flt x j)) (ys := [.int .i64 (j : Int)]) (k := 1) Tryz.underlying95 hin hz0 hz1 hz2 rfl (by omega) (by omega) _ _ rfl rfl rfl (HO.out.alloc _) rfl (by omega) rfl ((At.news wr 3 [.int .i64 (j : Int)]).news_at) (by intro u hu; rw [List.mem_singleton] at hu; rw [hu]; rfl) (by have := HFL.out; omega) (by have := HB.out.size; simp; omega) ?_
     intro g3 cap3 w3 ho3 hg3 hb3 _ _
     have e4 : Ns (flt x j) ++ [.int .i64 (j : Int)] = Ns (flt x (j + 1)) := by rw [HF.out]; simp [Ns]
     have e5 : (flt x j).length + 1 = (flt x (j + 1)).length := by rw [HF.out]; simp
     rw [e4, e5] at ho3
     have HO3 := Lib.hid ho3
     have HB3 : Hid (Below W.heap.size W w3) := Lib.hid ((HB.out.alloc HB.out.size _).trans hb3)
     rw [e5]
     obtain ⟨m3, hm3⟩ : ∃ m3, m3 = (flt x (j + 1)).length := ⟨_, rfl⟩
     rw [<- hm3]
     have HM3 := Lib.hid hm3
     clear ho3 hb3 hg3 e4 e5 hm3
     gi_wp2
     go_roundw
     case rel => exact ⟨j + 1, by omega, by go_num, by rw [<- HM3.out]; rw [<- HM3.out] at HO3; exact HO3.out, HB3.out⟩
     case measure => simp [intOf]; omega
  ·obtain rfl : j = n := by omega
   have hNs := HU.out.bx.lt
   have hss := HU.out.own.lt
   have hgs := HU.out.row.lt
   have SR0 := sort_row HU2.out hNs hss hgs HB.out.size (by rw [<- HN.out]; exact HO.out)
   have HL : Hid ((ordN x).length <= 19) := Lib.hid (by have := ordN_len x; have := HN.out; omega)
   obtain ⟨m, hm⟩ : ∃ m, m = (ordN x).length := ⟨_, rfl⟩
   unfold RowN at SR0
   rw [<- hm] at SR0
   have SR := Lib.hid SR0
   have HM := Lib.hid hm
   have hm19 : (m : Int) <= 19 := by have := HL.out; omega
   have LENH : Hid (∀ (A : Option Addr) (cap : Nat) (W : World), (Builtin.len_ #[95] 3 #[Value.slice A m cap]).run Tryz.prog W = .ok (.int .i64 m) W) := Lib.hid (fun A cap W => by
    cases A <;> simp [Builtin.len_, go_sem])
   clear hNs hss hgs c0 c1 SR0 hm
   gi_wp2_with (refine ⟨trivial, fun h => (by cases h), ?_⟩; gi_at_call 79; refine (callsIn_wide.2 SR.out).mono ?_; rintro e w5 ⟨rfl, ⟨A, cap, hv, hcell⟩, hb5⟩; subst hv; have HCELL := Lib.hid hcell; have HB5 := Lib.hid (HB.out.trans hb5); have LEN := LENH.out A cap w5; clear hcell hb5)
   have HRN : Hid (RowN W.heap.size (.slice A m cap) (ordN x) w5) := Lib.hid ⟨A, cap, by rw [HM.out], by rw [<- HM.out]; exact HCELL.out⟩
   gi_loopw [32] (fun i wr => ∃ j : Nat, j <= m /\ i = .int .i64 j /\ J j wr /\ UsA q s g N x wr /\ RowN W.heap.size (.slice A m cap) (ordN x) wr) (fun i _ => m - (intOf i).toNat)
   case atStart => exact ⟨0, Nat.zero_le _, rfl, HJ.out _ _ _ H0.out HB5.out, HU.out.below HB5.out, HRN.out⟩
   case round =>
    obtain ⟨i, him, rfl, hJi, hUi, hRi⟩ := hrel
    have HJI := Lib.hid hJi
    have HUI := Lib.hid hUi
    have HRI := Lib.hid hRi
    have c0 := hUi.bx.cell 0
    have c1 : wr.cell? ⟨s, 1, none⟩ = some (.slice (some ⟨g, 0, none⟩) j j) := by rw [HN.out]; exact hUi.own.cell 1
    simp only [List.getElem?_cons_zero] at c0
    clear hJi hUi hRi LEN
    by_cases hlt2 : i < m
    ·have j1 : (i : Int) < (m : Int) := by omega
     obtain ⟨A2, cap2, e2, hgo⟩ := HRI.out
     obtain ⟨go, rest, hAe, hgB, hrow⟩ := hgo (by rw [<- HM.out]; omega)
     have e3 : A = A2 := by
      injection e2
     rw [<- e3] at hAe
     subst hAe
     obtain ⟨b, hb⟩ : ∃ b, b = nn (ordN x) i := ⟨_, rfl⟩
     have hcb : wr.cell? ⟨go, i, none⟩ = some (.int .i64 (b : Int)) := by rw [hb]; exact hrow.num (by rw [<- HM.out]; exact hlt2)
     have hbx : b < j := by rw [hb, HN.out]; exact (mem_ordN.1 (nn_mem _ _ (by rw [<- HM.out]; exact hlt2))).1
     have b1 : (b : Int) < (j : Int) := by omega
     have HGT : Hid ((usL x)[i]? = some (b, bkN x.bs b)) := Lib.hid (by rw [hb]; exact usL_get x (by rw [<- HM.out]; exact hlt2))
     have hblk := HUI.out.blk (b := b) (by rw [<- HN.out]; exact hbx)
     have HBK := Lib.hid hblk
     have HBL : Hid ((bkC (bkN x.bs b)).length = 66) := Lib.hid (bk_len (HUI.out.ok _ (List.mem_of_getElem? (bkN_get (by rw [<- HN.out]; exact hbx)))))
     obtain ⟨fn, tmps, assign, body, hy, hR⟩ := HY.out i _ wr HGT.out HJI.out
     unfold usE bkV at hy
     clear hb hrow hbx hblk e2 e3 hgo hgB
     gi_wp2_with (first
      | (refine wpListIn_ldr_w _ rfl rfl rfl Tryz.underlying101 rfl bk_size HBL.out HBK.out ?_))
     refine ⟨fun h => (by cases h), (round_out hR).mono ?_⟩
     rintro e W3 (⟨rfl, hJ3, hk3⟩ | ⟨rfl, hJx3, _⟩)
     ·have HJ3 := Lib.hid hJ3
      have HU3 := Lib.hid (HUI.out.keep kN ks kg hk3)
      have HR3 := Lib.hid (HRI.out.keep HWW.out.size hk3)
      clear hJ3 hk3
      gi_wp2
      go_roundw
      case rel => exact ⟨i + 1, by omega, by go_num, HJ3.out, HU3.out, HR3.out⟩
      case measure => simp [intOf]; omega
     ·have HJ3 := Lib.hid hJx3
      have HIM : Hid (i < (usL x).length) := Lib.hid (by rw [usL_len, <- HM.out]; exact hlt2)
      clear hJx3
      gi_wp2
      refine bodyPost_ret (results_none rfl _ _ _) rfl ?_
      exact ⟨⟨_, rfl⟩, .inr ⟨_, HIM.out, HJ3.out⟩⟩
    ·obtain rfl : i = m := by omega
     have HIM : Hid (i = (usL x).length) := Lib.hid (by rw [usL_len, <- HM.out])
     gi_wp2
     go_end0
     exact ⟨⟨_, rfl⟩, .inl (HIM.out ▸ HJI.out)⟩
end
theorem len_places (A : Option Addr) (n cap : Nat) (W : World) : (Builtin.len_ #[109] 3 #[Value.slice A n cap]).run Tryz.prog W = .ok (.int .i64 n) W := by
 cases A <;> simp [Builtin.len_, go_sem]
theorem usL_ord {x : StoM} {i : Nat} {y : Nat × BlkM} (h : (usL x)[i]? = some y) : (ordN x)[i]? = some y.1 := by
 unfold usL at h
 rw [List.getElem?_map, Option.map_eq_some_iff] at h
 obtain ⟨b, hb, rfl⟩ := h
 exact hb
theorem tail_some {x : StoM} {i : Nat} {b : Nat} (h : (ordN x)[i]? = some b) (h1 : lNeeded (cnt x.bs) (b : Int) = []) (h2 : ∀ j c, j < i -> (ordN x)[j]? = some c -> lNeeded (cnt x.bs) (c : Int) ≠ []) : tailB x = some b := by
 unfold tailB
 rw [List.find?_eq_some_iff_getElem]
 obtain ⟨hi, hb⟩ := List.getElem?_eq_some_iff.1 h
 refine ⟨decide_eq_true h1, i, hi, hb, fun j hj => ?_⟩
 rw [Bool.not_eq_true', decide_eq_false_iff_not]
 exact h2 j _ hj (List.getElem?_eq_getElem (by omega))
theorem tail_none {x : StoM} (h2 : ∀ j c, j < (ordN x).length -> (ordN x)[j]? = some c -> lNeeded (cnt x.bs) (c : Int) ≠ []) : tailB x = none := by
 unfold tailB
 rw [List.find?_eq_none]
 intro c hc hd
 obtain ⟨j, hj, rfl⟩ := List.getElem_of_mem hc
 exact h2 j _ hj (List.getElem?_eq_getElem hj) (of_decide_eq_true hd)
section
variable {B p f q s k g : Nat} {K : Nat -> Prop} {d d' : DrvM} {x : StoM} {w w' : World}
attribute [local go_sem] Oper.semAt_some
structure RepI (B p f q s k g b1 b2 : Nat) (K K3 : Nat -> Prop) (w0 : World) (d : DrvM) (x : StoM) (v : Int) (X : World) : Prop where
 sto : Sto B p f q s k g K3 d x X
 a1 : At X b1 30 [.pointer (some ⟨s, 0, none⟩)]
 a2 : At X b2 31 [.int .i64 v]
 t : Turned (May B K) w0 X
section
variable {b1 b2 l : Nat} {K3 : Nat -> Prop} {w0 X Y : World} {v : Int}
theorem RepI.below (h : RepI B p f q s k g b1 b2 K K3 w0 d x v X) (hb : Below X.heap.size X Y) : RepI B p f q s k g b1 b2 K K3 w0 d x v Y :=
 ⟨h.sto.below hb, h.a1.kept (Turned.of_below hb (Nat.le_refl _) NoBlock) (fun h => h), h.a2.kept (Turned.of_below hb (Nat.le_refl _) NoBlock) (fun h => h), h.t.trans (Turned.of_below hb (Nat.le_refl _) _)⟩
def Marked' (l : Nat) (W W2 : World) : Prop := ∃ r o, W.heap[l]? = some (.deferred r) /\ W2 = W.putObj l o /\ o = .deferred none
theorem RepI.markD (h : RepI B p f q s k g b1 b2 K K3 w0 d x v X) (hj : d.f.job = 0) (hl : K3 l) (hn : w0.heap.size <= l) (hm : Marked' l X Y) : RepI B p f q s k g b1 b2 K K3 w0 d x v Y := by
 obtain ⟨r, o, hr, rfl, _⟩ := hm
 have hne : ∀ {b : Nat} {t : TypeId} {cs : List Value}, At X b t cs -> b ≠ l := fun {b t cs} hA e => by
  subst e
  unfold At at hA
  rw [hr] at hA
  cases hA
 have t : Turned (Just l) X (X.putObj l o) := (Turned.refl _ X).grown (grownBy_putObj' X l _) (fun k e _ => by injection e with e; exact e.symm)
 exact ⟨h.sto.mine hj hl t, (World.putObj_heap_other (hne h.a1)).trans h.a1, (World.putObj_heap_other (hne h.a2)).trans h.a2, h.t.after t (fun i hi e => by unfold Just at e; omega)⟩
theorem T9' (X : World) (b D : Nat) (u : Value) {o : Obj} (h : X.heap[D]? = some o) (hD : D ≠ b) : (X.setCell ⟨b, 0, none⟩ u).heap[D]? = some o := by
 have t : Turned (Just b) X (X.setCell ⟨b, 0, none⟩ u) := (Turned.refl (Just b) X).setCell (p := ⟨b, 0, none⟩) (fun _ => rfl) _
 exact (t.block D (Array.getElem?_eq_some_iff.1 h).1 (fun e => hD e)).trans h
theorem RepI.mark (h : RepI B p f q s k g b1 b2 K K3 w0 d x v X) (hj : d.f.job = 0) (hl : K3 l) (hn : w0.heap.size <= l) (hm : Marked l X Y) : RepI B p f q s k g b1 b2 K K3 w0 d x v Y :=
 ⟨h.sto.mine hj hl hm.turned, hm.at_ h.a1, hm.at_ h.a2, h.t.after hm.turned (fun i hi e => by unfold Just at e; omega)⟩
end
set_option maxRecDepth 100000 in
set_option maxHeartbeats 1000000 in
theorem Sto.repair (h : Sto B p f q s k g K d x w) (ok : DrvOk k d) (hk19 : k <= 19) (t0 : 0 <= d.t) (t1 : d.t <= 80000000000000) :
  Calls Tryz.prog 44 #[.pointer (some ⟨s, 0, none⟩)] w (StoOut B p f q s k K (mRep k d x) w) := by
 have hk2 := h.k2
 obtain ⟨W0, hW0⟩ : ∃ W0, W0 = (w.alloc (.cells #[.pointer (some ⟨s, 0, none⟩)] 30)).alloc (.cells #[.int .i64 0] 31) := ⟨_, rfl⟩
 have A1 : At W0 w.heap.size 30 [.pointer (some ⟨s, 0, none⟩)] := by rw [hW0]; exact (At.news w _ _).alloc _
 have A2 : At W0 (w.heap.size + 1) 31 [.int .i64 0] := by rw [hW0]; exact At.alloc_new _ _ _ (by simp) rfl
 have B0 : Below w.heap.size w W0 := by rw [hW0]; exact below_two w _ _
 obtain ⟨b2, hb2⟩ : ∃ b2, b2 = w.heap.size + 1 := ⟨_, rfl⟩
 obtain ⟨b1, hb1⟩ : ∃ b1, b1 = w.heap.size := ⟨_, rfl⟩
 obtain ⟨K2, hK2⟩ : ∃ K2 : Nat -> Prop, K2 = fun i => K i \/ i = b1 \/ i = b2 := ⟨_, rfl⟩
 have HK1 : Hid (K2 b1) := Lib.hid (by rw [hK2]; exact .inr (.inl rfl))
 have HK2 : Hid (K2 b2) := Lib.hid (by rw [hK2]; exact .inr (.inr rfl))
 have HKK : Hid (∀ i, K i -> K2 i) := Lib.hid (fun i e => by rw [hK2]; exact .inl e)
 have HK2D : Hid (∀ i, K2 i -> K i \/ i = b1 \/ i = b2) := Lib.hid (fun i e => by rw [hK2] at e; exact e)
 have hS0 : Sto B p f q s k g K2 d x W0 := h.renew ok.calm.job B0 (fun i e => by
  rw [hK2] at e
  rcases e with e | rfl | rfl
  ·exact ⟨.inl e, Nat.lt_of_lt_of_le (h.kin i e) B0.size⟩
  ·exact ⟨.inr (by omega), by rw [hb1]; exact A1.lt⟩
  ·exact ⟨.inr (by omega), by rw [hb2]; exact A2.lt⟩)
 rw [<- hb2] at A2
 rw [<- hb1] at A1
 have c1 : W0.cell? ⟨s, 1, none⟩ = some (.slice (some ⟨g, 0, none⟩) k k) := by rw [hS0.c1, h.len]
 have p1 : W0.cell? ⟨b1, 0, none⟩ = some (.pointer (some ⟨s, 0, none⟩)) := A1.cell 0
 have HB12 : Hid (b1 = w.heap.size /\ b2 = w.heap.size + 1) := Lib.hid ⟨hb1, hb2⟩
 have hW0' := hW0.symm
 obtain ⟨RR, hRR⟩ : ∃ r, r = mFix d x (List.range k) := ⟨_, rfl⟩
 have HRR := Lib.hid hRR
 have HREP : Hid (mRep k d x = if RR.2.2 ≠ 0 then RR else mTail RR.1 RR.2.1) := Lib.hid (by rw [hRR]; rfl)
 have HKIN := Lib.hid h.kin
 have HBSZ := Lib.hid h.size
 have LENP := len_places
 have HS0 := Lib.hid hS0
 have HA1 := Lib.hid A1
 have HA2 := Lib.hid A2
 have HB0 := Lib.hid B0
 have HT := Lib.hid (show 0 <= d.t /\ d.t <= 80000000000000 from ⟨t0, t1⟩)
 have HTL := Lib.hid (fun j => fix_ticks (List.range j) d x)
 have HCL := Lib.hid (fun j => fix_calm (List.range j) d x ok)
 clear h ok t0 t1 hRR hS0 A1 A2 B0 hK2 hb1 hb2 hW0
 refine (callsIn_wide (n := 10)).1 ?_
 refine callsIn_of_wp_marks Tryz.func44 rfl trivial ?_
 simp only [Tryz.ntmps44, List.size_toArray, List.length_cons, List.length_nil, Nat.reduceAdd, Nat.reduceSub, Array.replicate_succ, Array.replicate_zero, List.push_toArray, List.append_toArray, List.nil_append, List.cons_append]
 refine wpIn_wide.2 ?_
 go_upto_region 1 with (fail)
 rw [<- HB12.out.2, <- HB12.out.1]
 clear hW0'
 go_wp2
 clear p1 c1
 go_loopw [11] (fun i wr => ∃ j : Nat, j <= k /\ i = .int .i64 j /\ (mFix d x (List.range j)).2.2 = 0 /\ (∃ g', Sto B p f q s k g' K2 (mFix d x (List.range j)).1 (mFix d x (List.range j)).2.1 wr) /\ At wr b1 30 [.pointer (some ⟨s, 0, none⟩)] /\ At wr b2 31 [.int .i64 0] /\ Turned (May B K) w wr) (fun i _ => k - (intOf i).toNat)
 case atStart => exact ⟨0, by omega, rfl, by rw [List.range_zero, mFix_nil], ⟨g, by rw [List.range_zero, mFix_nil]; exact HS0.out⟩, HA1.out, HA2.out, Turned.of_below HB0.out (Nat.le_refl _) _⟩
 case round =>
  obtain ⟨j, hj, rfl, he, ⟨g', hs⟩, ha1, ha2, htn⟩ := hrel
  obtain ⟨R0, hR0⟩ : ∃ R0, R0 = mFix d x (List.range j) := ⟨_, rfl⟩
  rw [<- hR0] at he hs
  have p1 : wr.cell? ⟨b1, 0, none⟩ = some (.pointer (some ⟨s, 0, none⟩)) := ha1.cell 0
  have p2 : wr.cell? ⟨b2, 0, none⟩ = some (.int .i64 0) := ha2.cell 0
  have pf : wr.frozen? ⟨b2, 0, none⟩ = false := ha2.frozen 0
  have c1 : wr.cell? ⟨s, 1, none⟩ = some (.slice (some ⟨g', 0, none⟩) k k) := by rw [hs.c1, hs.len]
  have HE := Lib.hid he
  have HS := Lib.hid hs
  have HTN := Lib.hid htn
  have HTJ := Lib.hid (HTL.out j)
  have HCJ := Lib.hid (HCL.out j)
  have HAA1 := Lib.hid ha1
  have HAA2 := Lib.hid ha2
  rw [<- hR0] at HTJ HCJ
  have HR0 := Lib.hid hR0
  clear he hs htn hR0 ha1 ha2
  by_cases hlt : j < k
  ·have i0 : (0 : Int) <= (j : Int) := by omega
   have i1 : (j : Int) < (k : Int) := by omega
   have i2 : (k : Int) <= 64 := by omega
   have HR1 : Hid (mFix d x (List.range (j + 1)) = mFixS R0.1 R0.2.1 j) := Lib.hid (by rw [List.range_succ, mFix_snoc _ _ _ _ (by rw [<- HR0.out]; exact HE.out), HR0.out])
   obtain ⟨hd, hhd⟩ : ∃ hd, hd = (bkN R0.2.1.bs j).head := ⟨_, rfl⟩
   have c2 : wr.cell? ⟨g', j * 66, none⟩ = some (.int .i64 hd) := by rw [hhd]; exact HS.out.blk hlt 0 _ (bk_head _)
   have HHD := Lib.hid hhd
   clear hhd
   by_cases h1 : hd = 1
   ·have HR2 : Hid (mFix d x (List.range (j + 1)) = (R0.1, R0.2.1, 0)) := Lib.hid (by rw [HR1.out]; unfold mFixS; rw [if_pos (by rw [<- HHD.out]; exact h1)])
    have e1 : (hd == 1) = true := by rw [beq_iff_eq]; exact h1
    clear h1
    go_wp2
    go_roundw
    case rel => exact ⟨j + 1, by omega, by go_num, by rw [HR2.out], ⟨g', by rw [HR2.out]; exact HS.out⟩, HAA1.out, HAA2.out, HTN.out⟩
    case measure => simp [intOf]; omega
   ·obtain ⟨r, hr⟩ : ∃ r, r = mRenew R0.1 R0.2.1 j := ⟨_, rfl⟩
    have HR2 : Hid (mFix d x (List.range (j + 1)) = r) := Lib.hid (by rw [HR1.out]; unfold mFixS; rw [if_neg (by rw [<- HHD.out]; exact h1), hr])
    have e1 : (hd == 1) = false := by rw [beq_eq_false_iff_ne]; exact h1
    have RN : Hid (Calls Tryz.prog 59 #[.pointer (some ⟨s, 0, none⟩), .int .i64 (j : Int)] wr (StoOut B p f q s k K2 r wr)) := Lib.hid (by
     rw [hr]
     have h1 := HTJ.out
     have h2 := HT.out
     rw [List.length_range] at h1
     exact HS.out.renews HCJ.out j hlt (by omega) (by omega))
    have HRJ : Hid (r.1.f.job = 0) := Lib.hid (by rw [hr]; exact (renew_calm HCJ.out R0.2.1 j).calm.job)
    clear hr h1
    go_upto_region 6 with (go_at_call 59; (refine RN.out.mono ?_); rintro e w5 ⟨rfl, ⟨g5, hs5⟩, ht5⟩; have HS5 := Lib.hid hs5; have HT5 := Lib.hid ht5; clear hs5 ht5)
    have HA15 : Hid (At w5 b1 30 [.pointer (some ⟨s, 0, none⟩)]) := Lib.hid (HAA1.out.kept HT5.out (fun e => e.2 HK1.out))
    have HA25 : Hid (At w5 b2 31 [.int .i64 0]) := Lib.hid (HAA2.out.kept HT5.out (fun e => e.2 HK2.out))
    have HT15 : Hid (Turned (May B K) w w5) := Lib.hid (HTN.out.trans (may_less HT5.out HKK.out))
    have q2 : w5.cell? ⟨b2, 0, none⟩ = some (.int .i64 0) := HA25.out.cell 0
    have qf : w5.frozen? ⟨b2, 0, none⟩ = false := HA25.out.frozen 0
    by_cases e0 : r.2.2 = 0
    ·have HE0 := Lib.hid e0
     have e1 : (r.2.2 != 0) = false := by rw [bne_eq_false_iff_eq]; exact e0
     clear e0
     go_wp2_with fail
     go_roundw
     case rel => exact ⟨j + 1, by omega, by go_num, by rw [HR2.out]; exact HE0.out, ⟨g5, by rw [HR2.out]; exact HS5.out⟩, HA15.out, HA25.out, HT15.out⟩
     case measure => simp [intOf]; omega
    ·have HE0 := Lib.hid e0
     have e1 : (r.2.2 != 0) = true := by rw [bne_iff_ne]; exact e0
     clear e0
     have HRF : Hid (RR = r) := Lib.hid (by
      have hsp : List.range k = List.range (j + 1) ++ (List.range k).drop (j + 1) := by
       have := List.take_append_drop (j + 1) (List.range k)
       rw [List.take_range, Nat.min_eq_left (by omega)] at this
       exact this.symm
      have h2 := mFix_stop ((List.range k).drop (j + 1)) (List.range (j + 1)) d x (by rw [HR2.out]; exact HE0.out)
      rw [<- hsp, HR2.out] at h2
      rw [HRR.out, h2])
     go_wp2_with fail
     have A9 := HA25.out.put 0 (.int .i64 r.2.2)
     have T9 : Turned (Just b2) w5 (w5.setCell ⟨b2, 0, none⟩ (.int .i64 r.2.2)) := (Turned.refl (Just b2) w5).setCell (p := ⟨b2, 0, none⟩) (fun _ => rfl) _
     refine post_ret (err_res1 Tryz.results44 _ rfl A9) ?_
     rw [HREP.out, HRF.out, if_pos HE0.out]
     exact ⟨rfl, ⟨g5, (HS5.out.mine HRJ.out HK2.out T9).less HKK.out⟩, HT15.out.after T9 (fun i hi h => by unfold Just at h; have := HB12.out.2; omega)⟩
  ·have hjk : j = k := by omega
   subst hjk
   have HRF : Hid (RR = R0) := Lib.hid (by rw [HRR.out, HR0.out])
   obtain ⟨⟨d1, x1, e1⟩, hR0e⟩ : ∃ r, r = R0 := ⟨_, rfl⟩
   obtain rfl : R0 = (d1, x1, e1) := hR0e.symm
   dsimp only at *
   obtain rfl : e1 = 0 := HE.out
   have HRT : Hid (mRep j d x = mTail d1 x1) := Lib.hid (by rw [HREP.out, HRF.out]; exact if_neg (fun h => h rfl))
   have HRD := HS.out.reads
   rw [HS.out.len] at HRD
   have CF0 := hasB_any HRD (by omega)
   cases hem : x1.bs.any bkEmpty with
   | true =>
     rw [hem] at CF0
     have CF := Lib.hid CF0
     have HRM : Hid (mRep j d x = (d1, x1, 0)) := Lib.hid (by rw [HRT.out]; unfold mTail; rw [if_pos hem])
     clear hem CF0 HRD hR0e
     go_upto_region 10 with (go_at_call 61; (refine CF.out.mono ?_); rintro e w5 ⟨rfl, hb5⟩; have HB5 := Lib.hid hb5; clear hb5)
     have HA25 : Hid (At w5 b2 31 [.int .i64 0]) := Lib.hid (HAA2.out.kept (Turned.of_below HB5.out (Nat.le_refl _) NoBlock) (fun h => h))
     have q2 : w5.cell? ⟨b2, 0, none⟩ = some (.int .i64 0) := HA25.out.cell 0
     have qf : w5.frozen? ⟨b2, 0, none⟩ = false := HA25.out.frozen 0
     go_wp2_with fail
     have A9 := HA25.out.put 0 (.int .i64 0)
     have T9 : Turned (Just b2) w5 (w5.setCell ⟨b2, 0, none⟩ (.int .i64 0)) := (Turned.refl (Just b2) w5).setCell (p := ⟨b2, 0, none⟩) (fun _ => rfl) _
     refine post_ret (err_res1 Tryz.results44 _ rfl A9) ?_
     rw [HRM.out]
     exact ⟨rfl, ⟨g', ((HS.out.below HB5.out).mine HCJ.out.calm.job HK2.out T9).less HKK.out⟩, (HTN.out.trans (Turned.of_below HB5.out (Nat.le_refl _) _)).after T9 (fun i hi h => by unfold Just at h; have := HB12.out.2; omega)⟩
   | false =>
     rw [hem] at CF0
     have CF := Lib.hid CF0
     have HRT2 : Hid (mRep j d x = mTl d1 x1) := Lib.hid (by
      rw [HRT.out]
      unfold mTail
      rw [if_neg (by rw [hem]; decide)])
     have HRJ : Hid ((mRep j d x).1.f.job = 0) := Lib.hid (by rw [HRT.out]; exact (mTail_calm HCJ.out x1).calm.job)
     clear hem CF0 HRD hR0e p2 pf
     go_wp2_with (first
      | (go_at_call 61; (refine CF.out.mono ?_); rintro e w5 ⟨rfl, hb5⟩; have HB5 := Lib.hid hb5; have q1 : w5.cell? ⟨b1, 0, none⟩ = some (.pointer (some ⟨s, 0, none⟩)) := (HAA1.out.kept (Turned.of_below hb5 (Nat.le_refl _) NoBlock) (fun h => h)).cell 0; clear hb5)
      | (go_at_call 63; (refine (usable_of _ _).mono ?_); rintro e w6 ⟨rfl, hw6⟩; obtain rfl := hw6.symm))
     obtain ⟨V, hV⟩ : ∃ V, V = w5.alloc (.cells #[.pointer (some ⟨s, 0, none⟩)] 30) := ⟨_, rfl⟩
     rw [<- hV]
     have HBV : Hid (Below wr.heap.size wr V) := Lib.hid (by rw [hV]; exact HB5.out.alloc HB5.out.size _)
     have vN : At V w5.heap.size 30 [.pointer (some ⟨s, 0, none⟩)] := by rw [hV]; exact At.news w5 _ _
     obtain ⟨N, hN⟩ : ∃ N, N = w5.heap.size := ⟨_, rfl⟩
     rw [<- hN] at vN ⊢
     have hU := (HS.out.below HBV.out).us hk19 (N := N) (Below.refl _ _) vN
     have HSV := Lib.hid (HS.out.below HBV.out)
     have HVW : Hid (w.heap.size <= V.heap.size) := Lib.hid (Nat.le_trans HTN.out.size HBV.out.size)
     obtain ⟨K3, hK3⟩ : ∃ K3 : Nat -> Prop, K3 = fun i => K2 i \/ i = V.heap.size \/ i = V.heap.size + 1 := ⟨_, rfl⟩
     have HK3a : Hid (K3 V.heap.size) := Lib.hid (by rw [hK3]; exact .inr (.inl rfl))
     have HK3b : Hid (K3 (V.heap.size + 1)) := Lib.hid (by rw [hK3]; exact .inr (.inr rfl))
     have HK3c : Hid (∀ i, K2 i -> K3 i) := Lib.hid (fun i e => by rw [hK3]; exact .inl e)
     have HAV1 : Hid (At V b1 30 [.pointer (some ⟨s, 0, none⟩)]) := Lib.hid (HAA1.out.kept (Turned.of_below HBV.out (Nat.le_refl _) NoBlock) (fun h => h))
     have HAV2 : Hid (At V b2 31 [.int .i64 0]) := Lib.hid (HAA2.out.kept (Turned.of_below HBV.out (Nat.le_refl _) NoBlock) (fun h => h))
     have I0 : ∀ W1, Below V.heap.size V W1 -> W1.heap.size = V.heap.size + 2 -> RepI B p f q s j g' b1 b2 K K3 w d1 x1 0 W1 /\ ∀ (i c : Nat), i < 0 -> (ordN x1)[i]? = some c -> lNeeded (cnt x1.bs) (c : Int) ≠ [] := fun W1 hb hz =>
      ⟨⟨HSV.out.renew HCJ.out.calm.job hb (fun i e => by
        rw [hK3] at e
        rcases e with e | e | e
        ·exact ⟨.inl e, by have := HSV.out.kin i e; omega⟩
        ·exact ⟨.inr (by omega), by omega⟩
        ·exact ⟨.inr (by omega), by omega⟩), HAV1.out.kept (Turned.of_below hb (Nat.le_refl _) NoBlock) (fun h => h), HAV2.out.kept (Turned.of_below hb (Nat.le_refl _) NoBlock) (fun h => h), (HTN.out.trans (Turned.of_below HBV.out (Nat.le_refl _) _)).trans (Turned.of_below hb (Nat.le_refl _) _)⟩, fun i c h => by omega⟩
     have HKW : Hid (∀ i, K3 i -> K i \/ w.heap.size <= i) := Lib.hid (fun i e => by
      by_cases hlt : w.heap.size <= i
      ·exact .inr hlt
      ·left
       rw [hK3] at e
       have h2 := HB12.out
       rcases e with e | e | e
       ·have := HK2D.out i e
        rcases this with e | e | e
        ·exact e
        ·omega
        ·omega
       ·have := HVW.out; omega
       ·have := HVW.out; omega)
     clear hV hN hK3 p1 c1 q1
     refine wpIn_wide.1 (range_outerJ (n := 10) (gf := 78) (lb := #[.pointer (some ⟨N, 0, none⟩)]) (encs := usE) (Kp := KpU V.heap.size (Kb3 N s g')) (xs := usL x1) (w0 := V) (m := 8)
      (I := fun (i : Nat) X => RepI B p f q s j g' b1 b2 K K3 w d1 x1 0 X /\ ∀ (i' c : Nat), i' < i -> (ordN x1)[i']? = some c -> lNeeded (cnt x1.bs) (c : Int) ≠ [])
      (Ix := fun co _ X => co = .ret /\ ∃ g5, RepI B p f q s j g5 b1 b2 K K3 w (mRep j d x).1 (mRep j d x).2.1 (mRep j d x).2.2 X)
      rfl (enters_of Tryz.func78 (by kernel_rfl) rfl) (us_seqJ _ (.inl rfl) (.inr (.inl rfl)) (.inr (.inr rfl)) hU) (Below.refl _ _) KpU.trans ?km (fun _ => rfl) ?ib ?im ?ix I0 ?rnd ?dn ?st)
     case km =>
      rintro X Y ⟨r, r', hr, rfl⟩
      exact KpU.put _ _ _ _ hr rfl
     case ib => exact fun i X Y h hb => ⟨h.1.below hb, h.2⟩
     case im => exact fun i X Y h hm => ⟨h.1.mark HCJ.out.calm.job HK3b.out (by have := HVW.out; omega) hm, h.2⟩
     case ix =>
      rintro co i X Y ⟨rfl, g5, h⟩ hm
      exact ⟨rfl, g5, h.mark HRJ.out HK3b.out (by have := HVW.out; omega) hm⟩
     case rnd =>
      have HLENP := Lib.hid LENP
      clear I0 hU vN LENP
      rintro i y X ⟨rr, hrr⟩ ⟨hI, hF⟩ hx
      have HO := Lib.hid (usL_ord hx)
      have HXL : Hid (V.heap.size + 1 < X.heap.size) := Lib.hid (Array.getElem?_eq_some_iff.1 hrr).1
      have HYJ : Hid (y.1 < j) := Lib.hid (by
       have := (mem_ordN.1 (List.mem_of_getElem? HO.out)).1
       rw [HS.out.len] at this
       exact this)
      have HII := Lib.hid hI
      have HF := Lib.hid hF
      clear hI hF hx hrr
      unfold usE
      gi_wp2_with fail
      refine ⟨⟨Nat.le_refl _, rfl, fun _ _ => rfl⟩, KpU.refl _ _ _, ⟨HII.out, HF.out⟩, ?_⟩
      intro X2 hmk
      have hI2 := HII.out.mark HCJ.out.calm.job HK3b.out (by have := HVW.out; omega) hmk
      have HI2 := Lib.hid hI2
      have HX2L : Hid (V.heap.size + 1 < X2.heap.size) := Lib.hid (Nat.lt_of_lt_of_le HXL.out hmk.turned.size)
      have r1 : X2.cell? ⟨b1, 0, none⟩ = some (.pointer (some ⟨s, 0, none⟩)) := hI2.a1.cell 0
      have r2 : X2.cell? ⟨s, 1, none⟩ = some (.slice (some ⟨g', 0, none⟩) j j) := by rw [hI2.sto.c1, hI2.sto.len]
      have RDS := hI2.sto.reads
      rw [hI2.sto.len] at RDS
      have ND := Lib.hid (lneeded_any _ _ _ _ (y.1 : Int) X2 RDS (by omega))
      obtain ⟨nd, hnd⟩ : ∃ nd, nd = (lNeeded (cnt x1.bs) (y.1 : Int)).length := ⟨_, rfl⟩
      rw [<- hnd] at ND
      have HND := Lib.hid hnd
      clear hI2 RDS hnd hmk
      by_cases h0 : nd = 0
      ·have HNE : Hid (lNeeded (cnt x1.bs) (y.1 : Int) = []) := Lib.hid (List.eq_nil_of_length_eq_zero (by rw [<- HND.out]; exact h0))
       subst h0
       have HTB : Hid (mRep j d x = mRenew d1 x1 y.1) := Lib.hid (by rw [HRT2.out]; exact mTl_some (tail_some HO.out HNE.out HF.out))
       gi_wp2_with (first
        | (refine ⟨trivial, ?_⟩; gi_at_call 64; refine (CallsIn.inRound _ (callsIn_wide.2 ND.out)).mono ?_; rintro e X3 ⟨B3, c3, rfl, _, hb3⟩; have HB3 := Lib.hid hb3; have HI3 := Lib.hid (HI2.out.below hb3); have s1 : X3.cell? ⟨b1, 0, none⟩ = some (.pointer (some ⟨s, 0, none⟩)) := HI3.out.a1.cell 0; have LEN := HLENP.out B3 0 c3 X3; clear hb3)
        | (refine ⟨trivial, ?_⟩; gi_at_call 59; refine (CallsIn.inRound _ (callsIn_wide.2 (HI3.out.sto.renews HCJ.out y.1 HYJ.out (by have h1 := HTJ.out; have h2 := HT.out; rw [List.length_range] at h1; omega) (by have h1 := HTJ.out; have h2 := HT.out; rw [List.length_range] at h1; omega)))).mono ?_; rintro e X4 ⟨rfl, ⟨g4, s4⟩, t4⟩; have HS4 := Lib.hid s4; have HT4 := Lib.hid t4; have HA41 := Lib.hid (HI3.out.a1.kept t4 (fun e => e.2 (HK3c.out _ HK1.out))); have HA42 := Lib.hid (HI3.out.a2.kept t4 (fun e => e.2 (HK3c.out _ HK2.out))); have u2 : X4.cell? ⟨b2, 0, none⟩ = some (.int .i64 0) := HA42.out.cell 0; have uf : X4.frozen? ⟨b2, 0, none⟩ = false := HA42.out.frozen 0; clear s4 t4))
       have A9 := HA42.out.put 0 (.int .i64 (mRenew d1 x1 y.1).2.2)
       have T9 : Turned (Just b2) X4 (X4.setCell ⟨b2, 0, none⟩ (.int .i64 (mRenew d1 x1 y.1).2.2)) := (Turned.refl (Just b2) X4).setCell (p := ⟨b2, 0, none⟩) (fun _ => rfl) _
       have hX3 : V.heap.size + 1 < X3.heap.size := by have := HX2L.out; have := HB3.out.size; omega
       have hX4 : V.heap.size + 1 < X4.heap.size := Nat.lt_of_lt_of_le hX3 HT4.out.size
       have hDb : V.heap.size ≠ b2 /\ V.heap.size + 1 ≠ b2 /\ b1 ≠ b2 := by have := HAV2.out.lt; have := HB12.out; omega
       refine ⟨(KeepL.below HB3.out HX2L.out (fun D hD => by obtain rfl : D = V.heap.size := (by simpa using hD); have := HX2L.out; omega)).trans ((KeepL.turned HT4.out hX3 (fun D hD => by obtain rfl : D = V.heap.size := (by simpa using hD); omega) (fun e => e.2 HK3b.out) (fun D hD e => by obtain rfl : D = V.heap.size := (by simpa using hD); exact e.2 HK3a.out)).trans (KeepL.turned T9 hX4 (fun D hD => by obtain rfl : D = V.heap.size := (by simpa using hD); omega) (fun e => hDb.2.1 e) (fun D hD e => by obtain rfl : D = V.heap.size := (by simpa using hD); exact hDb.1 e))), rfl, g4, ?_⟩
       rw [HTB.out]
       exact ⟨HS4.out.mine (by rw [<- HTB.out]; exact HRJ.out) (HK3c.out _ HK2.out) T9, HA41.out.kept T9 (fun e => hDb.2.2 e), A9, ((HI3.out.t.trans (may_less HT4.out (fun i e => HK3c.out _ (HKK.out i e)))).after T9 (fun i hi h => by unfold Just at h; have := HB12.out.2; omega))⟩
      ·have e0 : ((nd : Int) == 0) = false := by rw [beq_eq_false_iff_ne]; omega
       have HNE : Hid (lNeeded (cnt x1.bs) (y.1 : Int) ≠ []) := Lib.hid (fun e => h0 (by rw [HND.out, e]; rfl))
       gi_wp2_with (first
        | (refine ⟨trivial, ?_⟩; gi_at_call 64; refine (CallsIn.inRound _ (callsIn_wide.2 ND.out)).mono ?_; rintro e X3 ⟨B3, c3, rfl, _, hb3⟩; have HB3 := Lib.hid hb3; have HI3 := Lib.hid (HI2.out.below hb3); have LEN := HLENP.out B3 nd c3 X3; clear hb3))
       refine ⟨KeepL.below HB3.out HX2L.out (fun D hD => by obtain rfl : D = V.heap.size := (by simpa using hD); have := HX2L.out; omega), KpU.turned (Turned.of_below HB3.out (Nat.le_refl _) NoBlock) (fun _ _ _ hk => hk.elim), HI3.out, fun i' c hlt hc => ?_⟩
       by_cases e : i' = i
       ·subst e
        rw [HO.out] at hc
        injection hc with hc
        rw [<- hc]
        exact HNE.out
       ·exact HF.out i' c (by omega) hc
     case dn =>
      rintro X ⟨hI, hF⟩ hK
      have HII := Lib.hid hI
      have HKD := Lib.hid hK
      have HTB : Hid (mRep j d x = (d1, x1, 0)) := Lib.hid (by rw [HRT2.out]; exact mTl_none (tail_none (by rw [<- usL_len]; exact hF)))
      have u2 : X.cell? ⟨b2, 0, none⟩ = some (.int .i64 0) := hI.a2.cell 0
      have uf : X.frozen? ⟨b2, 0, none⟩ = false := hI.a2.frozen 0
      clear hI hF hK I0 hU vN LENP
      go_wp2_with fail
      have A9 := HII.out.a2.put 0 (.int .i64 0)
      have T9 : Turned (Just b2) X (X.setCell ⟨b2, 0, none⟩ (.int .i64 0)) := (Turned.refl (Just b2) X).setCell (p := ⟨b2, 0, none⟩) (fun _ => rfl) _
      obtain ⟨Y, hY⟩ : ∃ Y, Y = X.setCell ⟨b2, 0, none⟩ (.int .i64 0) := ⟨_, rfl⟩
      rw [<- hY] at A9 T9 ⊢
      have HY : RepI B p f q s j g' b1 b2 K K3 w d1 x1 0 Y := ⟨HII.out.sto.mine HCJ.out.calm.job (HK3c.out _ HK2.out) T9, HII.out.a1.kept T9 (fun e => by unfold Just at e; have := HB12.out; omega), A9, HII.out.t.after T9 (fun i hi h => by unfold Just at h; have := HB12.out.2; omega)⟩
      have hKY : Y.heap[V.heap.size]? = some (.deferred (some [])) := by
       rw [hY]
       exact (T9' X _ _ _ HKD.out (by have := HVW.out; have := HB12.out; have := HAV2.out.lt; omega))
      have hmk : Marked' V.heap.size Y (Y.putObj V.heap.size (.deferred none)) := ⟨_, _, hKY, rfl, rfl⟩
      have HZ := HY.markD HCJ.out.calm.job HK3a.out HVW.out hmk
      refine post_mark hKY (err_res1 Tryz.results44 _ rfl HZ.a2) ?_
      rw [HTB.out]
      exact ⟨rfl, ⟨g', HZ.sto.less (fun i e => HK3c.out _ (HKK.out i e))⟩, HZ.t⟩
     case st =>
      rintro co i X hi ⟨rfl, g5, h⟩ hK
      have HII := Lib.hid h
      have HKD := Lib.hid hK
      clear h hK I0 hU vN LENP
      gi_wp2_with fail
      have hmk : Marked' V.heap.size X (X.putObj V.heap.size (.deferred none)) := ⟨_, _, HKD.out, rfl, rfl⟩
      have HZ := HII.out.markD HRJ.out HK3a.out HVW.out hmk
      refine post_mark HKD.out (err_res1 Tryz.results44 _ rfl HZ.a2) ?_
      exact ⟨rfl, ⟨g5, HZ.sto.less (fun i e => HK3c.out _ (HKK.out i e))⟩, HZ.t⟩
end
end
end Go.Proofs.YtnfgpjfldgocaaaGreat
