/- What programs and erasures leave on a flash, as words and as blocks (plain data). | What a page that is put, and a block that is made anew, leave on a live flash, as blocks (plain data). | A store and its flash, as blocks: a page is put, a block is made anew (plain data; the power stays). | What the pages of a flash tell of a sector, and what a page more, or a block less, changes about it (plain data). | Latest pages as sets of pages: a new one, a copy, a block that goes (plain data). | What the copies of a sector tell, and what is to be moved out of a block (plain data). | Where pages can be written: how many places there are, and that each is free (plain data). | Pages are moved, and a block is made anew: what a reclaim leaves (plain data; the power stays, no block wears out). | What a reclaim leaves: the values of all sectors, and more free places (plain data; the power stays, no block wears out). | There is always a block that can be reclaimed, if room lacks (plain data). | A page is added: the values of all sectors behind it (plain data; the power stays, no block wears out). | What the calls of a store leave, while the power stays and no block wears out: reads, writes, Mount, Format (plain data). -/
import Derived.Test.YtpkkejdjhnmjiaaGreatDrvM
import Derived.Test.YtpkkejdjhnmjiaaGreatNorLawM
import Derived.Test.YtpkkejdjhnmjiaaGreatScanMath
import Derived.Test.YtpkkejdjhnmjiaaGreatFtl1
import Derived.Test.YtpkkejdjhnmjiaaGreatLatMath
import Derived.Test.YtpkkejdjhnmjiaaGreatFtl7
import Derived.Test.YtpkkejdjhnmjiaaGreatFtl9
namespace Go.Proofs.YtpkkejdjhnmjiaaGreat
open Go.RowKit Bm
def ovl (ws l : List (BitVec 32)) (a : Nat) : List (BitVec 32) := ws.take a ++ (l ++ ws.drop (a + l.length))
def win (ws : List (BitVec 32)) (a n : Nat) : List (BitVec 32) := (ws.drop a).take n
section
variable {ws l : List (BitVec 32)} {a n : Nat}
theorem ovl_get (h : a + l.length ≤ ws.length) (i : Nat) : (ovl ws l a)[i]? = if a ≤ i ∧ i < a + l.length then l[i - a]? else ws[i]? := by
  unfold ovl
  have ht : (ws.take a).length = a := by rw [List.length_take]; omega
  by_cases h1 : i < a
  · rw [List.getElem?_append_left (by omega), List.getElem?_take_of_lt h1, if_neg (by omega)]
  · rw [List.getElem?_append_right (by omega), ht]
    by_cases h2 : i < a + l.length
    · rw [List.getElem?_append_left (by omega), if_pos (by omega)]
    · rw [List.getElem?_append_right (by omega), List.getElem?_drop, if_neg (by omega)]
      congr 1
      omega
theorem win_get (i : Nat) : (win ws a n)[i]? = if i < n then ws[a + i]? else none := by
  unfold win
  by_cases h : i < n
  · rw [List.getElem?_take_of_lt h, List.getElem?_drop, if_pos h]
  · rw [List.getElem?_take_eq_none (by omega), if_neg h]
theorem win_congr {us : List (BitVec 32)} (h : ∀ i, i < n → us[a + i]? = ws[a + i]?) : win us a n = win ws a n := by
  apply List.ext_getElem?
  intro i
  rw [win_get, win_get]
  split
  · exact h i ‹_›
  · rfl
theorem win_far {b : Nat} (h : a + l.length ≤ ws.length) (hd : b + n ≤ a ∨ a + l.length ≤ b) : win (ovl ws l a) b n = win ws b n :=
  win_congr fun i hi => by rw [ovl_get h, if_neg (by omega)]
theorem win_same (h : a + l.length ≤ ws.length) : win (ovl ws l a) a l.length = l := by
  apply List.ext_getElem?
  intro i
  rw [win_get]
  by_cases hi : i < l.length
  · rw [if_pos hi, ovl_get h, if_pos (by omega)]
    congr 1
    omega
  · rw [if_neg hi]
    exact (List.getElem?_eq_none (by omega)).symm
theorem win_chunk_page (b i : Nat) (hi : i < 8) : pgAtW (chunk ws b) i = win ws (64 * b + 4 + 7 * i) 7 := by
  apply List.ext_getElem?
  intro j
  rw [win_get]
  unfold pgAtW chunk
  by_cases hj : j < 7
  · rw [if_pos hj, List.getElem?_take_of_lt hj, List.getElem?_drop, List.getElem?_take_of_lt (by omega), List.getElem?_drop]
    congr 1
    omega
  · rw [if_neg hj, List.getElem?_take_eq_none (by omega)]
theorem win_chunk_head (b : Nat) : (chunk ws b).take 4 = win ws (64 * b) 4 := by
  apply List.ext_getElem?
  intro j
  rw [win_get]
  unfold chunk
  by_cases hj : j < 4
  · rw [if_pos hj, List.getElem?_take_of_lt hj, List.getElem?_take_of_lt (by omega), List.getElem?_drop]
  · rw [if_neg hj, List.getElem?_take_eq_none (by omega)]
end
theorem bkOf_win (ws : List (BitVec 32)) (b : Nat) : bkOf (chunk ws b) = ⟨(hdRd (win ws (64 * b) 4)).2, (hdRd (win ws (64 * b) 4)).1,
    (List.range 8).map (fun i => if (hdRd (win ws (64 * b) 4)).2 = 1 then (pgRd (win ws (64 * b + 4 + 7 * i) 7)).2 else 2),
    (List.range 8).map (fun i => if (hdRd (win ws (64 * b) 4)).2 = 1 then (pgRd (win ws (64 * b + 4 + 7 * i) 7)).1 else pg0)⟩ := by
  unfold bkOf
  rw [win_chunk_head]
  congr 1
  · apply List.map_congr_left
    intro i hi
    rw [win_chunk_page _ _ (List.mem_range.1 hi)]
  · apply List.map_congr_left
    intro i hi
    rw [win_chunk_page _ _ (List.mem_range.1 hi)]
theorem bkOf_congr {us ws : List (BitVec 32)} {b : Nat} (h : ∀ i, i < 64 → us[64 * b + i]? = ws[64 * b + i]?) : chunk us b = chunk ws b := win_congr (a := 64 * b) (n := 64) h
def andW : List (BitVec 32) → Nat → List (BitVec 32) → List (BitVec 32)
  | ws, _, [] => ws
  | ws, a, v :: l => andW (ws.set a (wd ws a &&& v)) (a + 1) l
theorem andW_nil (ws : List (BitVec 32)) (a : Nat) : andW ws a [] = ws := by rw [andW]
theorem andW_cons (ws : List (BitVec 32)) (a : Nat) (v : BitVec 32) (l : List (BitVec 32)) : andW ws a (v :: l) = andW (ws.set a (wd ws a &&& v)) (a + 1) l := by rw [andW]
theorem wd_setS (ws : List (BitVec 32)) (i j : Nat) (v : BitVec 32) (h : j ≠ i) : wd (ws.set i v) j = wd ws j := by
  unfold wd
  rw [List.getD_eq_getElem?_getD, List.getD_eq_getElem?_getD, List.getElem?_set_ne (Ne.symm h)]
theorem andW_get (l : List (BitVec 32)) : ∀ (ws : List (BitVec 32)) (a : Nat), a + l.length ≤ ws.length → ∀ i, (andW ws a l)[i]? = if a ≤ i ∧ i < a + l.length then some (wd ws i &&& wd l (i - a)) else ws[i]? := by
  induction l with
  | nil => intro ws a _ i; rw [andW_nil, if_neg (by rw [List.length_nil]; omega)]
  | cons v l ih =>
    intro ws a h i
    rw [List.length_cons] at h
    rw [andW_cons, ih _ _ (by rw [List.length_set]; omega), List.length_cons]
    by_cases h0 : i = a
    · subst h0
      rw [if_neg (by omega), if_pos (by omega), List.getElem?_set_self (by omega), Nat.sub_self]
      rfl
    · by_cases h1 : a + 1 ≤ i ∧ i < a + 1 + l.length
      · rw [if_pos h1, if_pos (by omega), wd_setS _ _ _ _ h0]
        have e : i - a = (i - (a + 1)) + 1 := by omega
        rw [e]
        rfl
      · rw [if_neg h1, if_neg (by omega), List.getElem?_set_ne (Ne.symm h0)]
theorem wd_get {ws : List (BitVec 32)} {i : Nat} (h : i < ws.length) : ws[i]? = some (wd ws i) := by
  unfold wd
  rw [List.getD_eq_getElem?_getD, List.getElem?_eq_getElem h]
  rfl
theorem wd_of_win {ws : List (BitVec 32)} {a n i : Nat} (h : win ws a n = onesW n) (hi : i < n) : wd ws (a + i) = 4294967295#32 := by
  have h1 := win_get (ws := ws) (a := a) (n := n) i
  rw [h, if_pos hi] at h1
  unfold onesW at h1
  rw [List.getElem?_replicate, if_pos hi] at h1
  unfold wd
  rw [List.getD_eq_getElem?_getD, ← h1]
  rfl
theorem andW_ones {ws l : List (BitVec 32)} {a : Nat} (h : a + l.length ≤ ws.length) (h1 : win ws a l.length = onesW l.length) : andW ws a l = ovl ws l a := by
  apply List.ext_getElem?
  intro i
  rw [andW_get l ws a h, ovl_get h]
  by_cases hi : a ≤ i ∧ i < a + l.length
  · rw [if_pos hi, if_pos hi, wd_get (by omega)]
    have e : i = a + (i - a) := by omega
    rw [e, wd_of_win h1 (by omega), show a + (i - a) - a = i - a by omega]
    congr 1
    exact BitVec.allOnes_and (x := wd l (i - a))
  · rw [if_neg hi, if_neg hi]
structure Live (k : Nat) (d : DrvM) : Prop where
  ok : DrvOk k d
  up : d.f.chip.up = true
  free : ∀ i, lk d.f.locks i = false
def Room (n : Nat) (c : ChipM) : Prop := c.left = 0 ∨ (n : Int) < c.left
def burn (n : Nat) (c : ChipM) : Int := if c.left = 0 then 0 else c.left - n
theorem Room.less {n m : Nat} {c : ChipM} (h : Room n c) (hm : m ≤ n) : Room m c := h.imp id (fun h => by omega)
theorem change_room {c : ChipM} (h : Room 1 c) : mChange c = { c with left := burn 1 c } := by
  unfold mChange burn
  rcases h with h | h
  · rw [if_pos h, if_pos h, ← h]
  · rw [if_neg (by omega), if_neg (by omega), if_neg (by omega)]
    rfl
theorem part_ones (f t : BitVec 32) : partB f t 4294967295#32 = t := by
  unfold partB
  have e : ~~~(4294967295#32 : BitVec 32) = 0#32 := by decide
  rw [e, BitVec.and_zero, BitVec.zero_or]
  exact BitVec.and_allOnes (x := t)
theorem pick_room {c : ChipM} (h : Room 1 c) : mPick c = 4294967295#32 := by
  unfold mPick
  rw [if_neg (by rcases h with h | h <;> omega)]
  rfl
theorem err_room {c : ChipM} (h : Room 1 c) : mErr c = 0 := by
  unfold mErr
  rw [if_neg (by rcases h with h | h <;> omega)]
section
variable {k : Nat} {d : DrvM}
theorem refuse_live (h : Live k d) {a : Int} (a0 : 0 ≤ a) (a1 : a < (k * 64 : Nat)) : fRefuse d.f a = 0 := by
  unfold fRefuse mRefuse
  rw [h.up, if_neg (by decide), h.ok.ok.chip.words, if_neg (by omega)]
def after (d : DrvM) (mo : Int) (n : Nat) (ws : List (BitVec 32)) : DrvM := ⟨{ d.f with mode := mo, chip := { d.f.chip with left := burn n d.f.chip, ws := ws } }, d.t + 3 * n⟩
theorem burn_burn (d : DrvM) (mo : Int) (n : Nat) (ws : List (BitVec 32)) (hr : Room (n + 1) d.f.chip) : burn n (after d mo 1 ws).f.chip = burn (n + 1) d.f.chip := by
  show (if burn 1 d.f.chip = 0 then (0 : Int) else burn 1 d.f.chip - (n : Int)) = burn (n + 1) d.f.chip
  unfold burn
  rcases hr with hr | hr
  · rw [if_pos hr, if_pos rfl, if_pos hr]
  · rw [if_neg (show ¬ d.f.chip.left = 0 by omega), if_neg (show ¬ d.f.chip.left - ((1 : Nat) : Int) = 0 by omega), if_neg (show ¬ d.f.chip.left = 0 by omega)]
    omega
theorem room_burn (d : DrvM) (mo : Int) (n : Nat) (ws : List (BitVec 32)) (hr : Room (n + 1) d.f.chip) : Room n (after d mo 1 ws).f.chip := by
  show burn 1 d.f.chip = 0 ∨ _ < burn 1 d.f.chip
  unfold burn
  rcases hr with hr | hr
  · rw [if_pos hr]; exact .inl rfl
  · rw [if_neg (by omega)]; exact .inr (by omega)
theorem after_after (d : DrvM) (mo mo' : Int) (n : Nat) (ws ws' : List (BitVec 32)) (hr : Room (n + 1) d.f.chip) : after (after d mo 1 ws) mo' n ws' = after d mo' (n + 1) ws' := by
  have hb := burn_burn d mo n ws hr
  have ht : d.t + 3 * ((1 : Nat) : Int) + 3 * (n : Int) = d.t + 3 * ((n + 1 : Nat) : Int) := by omega
  unfold after at hb ⊢
  dsimp only at hb ⊢
  rw [hb, ht]
theorem after_zero (d : DrvM) (hr : Room 0 d.f.chip) : after d d.f.mode 0 d.f.chip.ws = d := by
  have hb : burn 0 d.f.chip = d.f.chip.left := by
    unfold burn
    rcases hr with hr | hr
    · rw [if_pos hr, hr]
    · rw [if_neg (by omega)]; omega
  unfold after
  rw [hb, show d.t + 3 * ((0 : Nat) : Int) = d.t by omega]
theorem dPut_live (h : Live k d) (hr : Room 1 d.f.chip) (a : Nat) (a1 : a < k * 64) (v : BitVec 32) :
    dPut d a v = (after d 1 1 (d.f.chip.ws.set a (wd d.f.chip.ws a &&& v)), 0) := by
  have h1 := refuse_live h (a := (a : Int)) (by omega) (by omega)
  unfold dPut
  rw [if_pos h1, h.free, if_neg (by decide)]
  unfold fRefuse at h1
  unfold mProgram
  rw [if_pos h1, err_room hr]
  unfold mProgramDo
  rw [change_room hr, pick_room hr, part_ones, Int.toNat_natCast]
  rfl
theorem dProgram_live (l : List (BitVec 32)) : ∀ {d : DrvM} (_ : Live k d) (_ : Room l.length d.f.chip) (a : Nat) (_ : a + l.length ≤ k * 64),
    ∃ mo, dProgram d a l = (after d mo l.length (andW d.f.chip.ws a l), 0) ∧ Live k (dProgram d a l).1 := by
  induction l with
  | nil =>
    intro d h hr a ha
    exact ⟨d.f.mode, by rw [andW_nil, show ([] : List (BitVec 32)).length = 0 from rfl, after_zero d hr, dProgram], h⟩
  | cons v l ih =>
    intro d h hr a ha
    rw [List.length_cons] at hr ha
    have h1 := dPut_live h (hr.less (by omega)) a (by omega) v
    have hL : Live k (dPut d a v).1 := ⟨put_calm h.ok a v, by rw [h1]; exact h.up, fun i => by rw [h1]; exact h.free i⟩
    have e : dProgram d a (v :: l) = dProgram (dPut d a v).1 ((a + 1 : Nat) : Int) l := by
      rw [dProgram, h1, if_pos rfl]
      rfl
    rw [h1] at hL e
    obtain ⟨mo, h2, h3⟩ := ih hL (room_burn d 1 l.length _ hr) (a + 1) (by omega)
    rw [e]
    refine ⟨mo, ?_, h3⟩
    rw [h2, after_after _ _ _ _ _ _ hr, andW_cons]
    rfl
theorem dErase_live (h : Live k d) (hr : Room 1 d.f.chip) (b : Nat) (hb : b < k) (hw : nm d.f.chip.wear b < d.f.chip.endure) :
    dErase d b = (⟨{ d.f with mode := 1, chip := { d.f.chip with left := burn 1 d.f.chip, wear := d.f.chip.wear.set b (nm d.f.chip.wear b + 1), ws := eraseTo d.f.chip.ws b 64 4294967295#32 } }, d.t + 20⟩, 0) ∧ Live k (dErase d b).1 := by
  have h1 := refuse_live h (a := (b : Int) * 64) (by omega) (by omega)
  have e : dErase d b = (⟨{ d.f with mode := 1, chip := { d.f.chip with left := burn 1 d.f.chip, wear := d.f.chip.wear.set b (nm d.f.chip.wear b + 1), ws := eraseTo d.f.chip.ws b 64 4294967295#32 } }, d.t + 20⟩, 0) := by
    unfold dErase
    rw [if_pos h1, h.free, if_neg (by decide)]
    have hR : mRefuse d.f.chip (b : Int) d.f.chip.wear.length = 0 := by
      unfold mRefuse
      rw [h.up, if_neg (by decide), h.ok.ok.chip.wears, if_neg (by omega)]
    unfold mErase
    rw [if_pos hR, Int.toNat_natCast, if_neg (by omega), err_room hr]
    unfold mEraseDo
    rw [change_room hr, pick_room hr]
  exact ⟨e, erase_calm h.ok b, by rw [e]; exact h.up, fun i => by rw [e]; exact h.free i⟩
theorem turn_ones (n : Int) : turnB 4294967295#32 n = 4294967295#32 := turnB_ones n
theorem erased_get (ws : List (BitVec 32)) (b i : Nat) : (eraseTo ws b 64 4294967295#32)[i]? = if b * 64 ≤ i ∧ i < b * 64 + 64 ∧ i < ws.length then some 4294967295#32 else ws[i]? := by
  unfold eraseTo
  rw [List.getElem?_mapIdx]
  by_cases h : i < ws.length
  · rw [List.getElem?_eq_getElem h, Option.map_some]
    by_cases h1 : b * 64 ≤ i ∧ i < b * 64 + 64
    · rw [if_pos h1, if_pos ⟨h1.1, h1.2, h⟩, turn_ones, part_ones]
      rfl
    · rw [if_neg h1, if_neg (fun e => h1 ⟨e.1, e.2.1⟩)]
  · rw [List.getElem?_eq_none (by omega), if_neg (fun e => h e.2.2)]
    rfl
end
end Go.Proofs.YtpkkejdjhnmjiaaGreat
namespace Go.Proofs.YtpkkejdjhnmjiaaGreat
open Go.RowKit Bm
def viewOf (k : Nat) (ws : List (BitVec 32)) : List BlkM := (List.range k).map fun i => bkOf (chunk ws i)
section
variable {k : Nat} {ws us : List (BitVec 32)} {b i : Nat}
theorem view_len (k : Nat) (ws : List (BitVec 32)) : (viewOf k ws).length = k := by simp [viewOf]
theorem view_get (hb : b < k) : (viewOf k ws)[b]? = some (bkOf (chunk ws b)) := by simp [viewOf, hb]
theorem view_N (hb : b < k) : bkN (viewOf k ws) b = bkOf (chunk ws b) := by
  unfold bkN
  rw [List.getD_eq_getElem?_getD, view_get hb]
  rfl
theorem view_sc (hl : ws.length = k * 64) (k1 : 1 ≤ k) (k2 : k ≤ 64) : (scOf ws).1 = viewOf k ws := by
  unfold scOf
  have e : ws.length / 64 = k := by omega
  rw [if_pos (by omega), e]
  rfl
theorem view_set (hb : b < k) (h : ∀ j, j < k → j ≠ b → chunk us j = chunk ws j) : viewOf k us = (viewOf k ws).set b (bkOf (chunk us b)) := by
  apply List.ext_getElem?
  intro j
  by_cases hj : j < k
  · by_cases e : j = b
    · subst e
      rw [view_get hj, List.getElem?_set_self (by rw [view_len]; exact hj)]
    · rw [view_get hj, List.getElem?_set_ne (Ne.symm e), view_get hj, h j hj e]
  · rw [List.getElem?_eq_none (by rw [view_len]; omega), List.getElem?_eq_none (by rw [List.length_set, view_len]; omega)]
theorem ones_of_free {n : Nat} {xs : List (BitVec 32)} (hl : xs.length = n) (h : freeB xs = true) : xs = onesW n := by
  apply List.ext_getElem?
  intro i
  unfold onesW
  rw [List.getElem?_replicate]
  by_cases hi : i < n
  · rw [if_pos hi, List.getElem?_eq_getElem (by omega)]
    unfold freeB at h
    rw [List.all_eq_true] at h
    have := h _ (List.getElem_mem (show i < xs.length by omega))
    rw [beq_iff_eq] at this
    rw [this]
  · rw [if_neg hi, List.getElem?_eq_none (by omega)]
theorem pgRd_zero {xs : List (BitVec 32)} (h : (pgRd xs).2 = 0) : xs = onesW 7 := by
  unfold pgRd at h
  split at h
  · next hl =>
    split at h
    · next hf => exact ones_of_free hl hf
    · split at h
      · cases h
      · cases h
  · cases h
theorem vk_kind (ws : List (BitVec 32)) (b : Nat) (hi : i < 8) : nm (bkOf (chunk ws b)).kinds i = if (bkOf (chunk ws b)).head = 1 then (pgRd (win ws (64 * b + 4 + 7 * i) 7)).2 else 2 := by
  rw [bkOf_win]
  unfold nm
  rw [List.getD_eq_getElem?_getD, List.getElem?_map, List.getElem?_range hi]
  rfl
theorem vk_page (ws : List (BitVec 32)) (b : Nat) (hi : i < 8) : pgN (bkOf (chunk ws b)).pages i = if (bkOf (chunk ws b)).head = 1 then (pgRd (win ws (64 * b + 4 + 7 * i) 7)).1 else pg0 := by
  rw [bkOf_win]
  unfold pgN
  rw [List.getD_eq_getElem?_getD, List.getElem?_map, List.getElem?_range hi]
  rfl
theorem range8_set {α : Type} (f g : Nat → α) (hi : i < 8) (h : ∀ j, j < 8 → j ≠ i → g j = f j) : (List.range 8).map g = ((List.range 8).map f).set i (g i) := by
  apply List.ext_getElem?
  intro j
  by_cases hj : j < 8
  · by_cases e : j = i
    · subst e
      rw [List.getElem?_map, List.getElem?_range hj, List.getElem?_set_self (by simpa using hj)]
      rfl
    · rw [List.getElem?_map, List.getElem?_range hj, List.getElem?_set_ne (Ne.symm e), List.getElem?_map, List.getElem?_range hj, Option.map_some, Option.map_some, h j hj e]
  · rw [List.getElem?_eq_none (by simp; omega), List.getElem?_eq_none (by simp; omega)]
theorem bk_put (hl : ws.length = k * 64) (hb : b < k) (hi : i < 8) (hh : (bkOf (chunk ws b)).head = 1) {pg : PageM} (hp : pgOk pg = true) :
    bkOf (chunk (ovl ws (pgWs pg) (64 * b + 4 + 7 * i)) b) = { bkOf (chunk ws b) with kinds := (bkOf (chunk ws b)).kinds.set i 1, pages := (bkOf (chunk ws b)).pages.set i pg } := by
  have h7 : (pgWs pg).length = 7 := by rw [pgWs_yes hp]; rfl
  have hA : 64 * b + 4 + 7 * i + (pgWs pg).length ≤ ws.length := by rw [h7, hl]; omega
  have hw4 : win (ovl ws (pgWs pg) (64 * b + 4 + 7 * i)) (64 * b) 4 = win ws (64 * b) 4 := win_far hA (by omega)
  have hwj : ∀ j, j < 8 → j ≠ i → win (ovl ws (pgWs pg) (64 * b + 4 + 7 * i)) (64 * b + 4 + 7 * j) 7 = win ws (64 * b + 4 + 7 * j) 7 := fun j hj e => win_far hA (by rw [h7]; omega)
  have hwi : win (ovl ws (pgWs pg) (64 * b + 4 + 7 * i)) (64 * b + 4 + 7 * i) 7 = pgWs pg := by
    have := win_same hA
    rwa [h7] at this
  rw [bkOf_win] at hh
  have hh' : (hdRd (win ws (64 * b) 4)).2 = 1 := hh
  have e1 : (List.range 8).map (fun j => if (1 : Int) = 1 then (pgRd (win (ovl ws (pgWs pg) (64 * b + 4 + 7 * i)) (64 * b + 4 + 7 * j) 7)).2 else 2) = ((List.range 8).map (fun j => if (1 : Int) = 1 then (pgRd (win ws (64 * b + 4 + 7 * j) 7)).2 else 2)).set i 1 := by
    rw [range8_set (fun j => if (1 : Int) = 1 then (pgRd (win ws (64 * b + 4 + 7 * j) 7)).2 else 2) _ hi (fun j hj e => by rw [hwj j hj e]), hwi, pgRd_ws hp]
    rfl
  have e2 : (List.range 8).map (fun j => if (1 : Int) = 1 then (pgRd (win (ovl ws (pgWs pg) (64 * b + 4 + 7 * i)) (64 * b + 4 + 7 * j) 7)).1 else pg0) = ((List.range 8).map (fun j => if (1 : Int) = 1 then (pgRd (win ws (64 * b + 4 + 7 * j) 7)).1 else pg0)).set i pg := by
    rw [range8_set (fun j => if (1 : Int) = 1 then (pgRd (win ws (64 * b + 4 + 7 * j) 7)).1 else pg0) _ hi (fun j hj e => by rw [hwj j hj e]), hwi, pgRd_ws hp]
    rfl
  rw [bkOf_win (ovl ws (pgWs pg) (64 * b + 4 + 7 * i)) b, bkOf_win ws b, hw4, hh', e1, e2]
theorem chunk_far {l : List (BitVec 32)} {a j : Nat} (h : a + l.length ≤ ws.length) (hd : 64 * j + 64 ≤ a ∨ a + l.length ≤ 64 * j) : chunk (ovl ws l a) j = chunk ws j := win_far (a := a) (b := 64 * j) (n := 64) h hd
theorem view_put (hl : ws.length = k * 64) (hb : b < k) (hi : i < 8) (hh : (bkN (viewOf k ws) b).head = 1) {pg : PageM} (hp : pgOk pg = true) :
    viewOf k (ovl ws (pgWs pg) (64 * b + 4 + 7 * i)) = (viewOf k ws).set b { bkN (viewOf k ws) b with kinds := (bkN (viewOf k ws) b).kinds.set i 1, pages := (bkN (viewOf k ws) b).pages.set i pg } := by
  have h7 : (pgWs pg).length = 7 := by rw [pgWs_yes hp]; rfl
  have hA : 64 * b + 4 + 7 * i + (pgWs pg).length ≤ ws.length := by rw [h7, hl]; omega
  rw [view_set hb (fun j hj e => chunk_far hA (by rw [h7]; omega)), view_N hb, bk_put hl hb hi (by rw [← view_N hb]; exact hh) hp]
theorem mPut_live {d : DrvM} (h : Live k d) (hr : Room 7 d.f.chip) {x : StoM} (hv : x.bs = viewOf k d.f.chip.ws) (hb : b < k) (hi : i < 8) (hh : (bkN x.bs b).head = 1) (hk : nm (bkN x.bs b).kinds i = 0) {pg : PageM} (hp : pgOk pg = true) :
    ∃ mo, mPut d x b i pg = (after d mo 7 (ovl d.f.chip.ws (pgWs pg) (64 * b + 4 + 7 * i)), { x with bs := viewOf k (ovl d.f.chip.ws (pgWs pg) (64 * b + 4 + 7 * i)) }, 0) ∧ Live k (mPut d x b i pg).1 := by
  have hl := h.ok.ok.chip.words
  have hk2 := h.ok.ok.chip.k2
  have h7 : (pgWs pg).length = 7 := by rw [pgWs_yes hp]; rfl
  rw [hv, view_N hb] at hh hk
  have hones : win d.f.chip.ws (64 * b + 4 + 7 * i) 7 = onesW 7 := by
    rw [vk_kind _ _ hi, if_pos hh] at hk
    exact pgRd_zero hk
  have hA : 64 * b + 4 + 7 * i + (pgWs pg).length ≤ d.f.chip.ws.length := by rw [h7, hl]; omega
  obtain ⟨mo, e, hL⟩ := dProgram_live (pgWs pg) h (by rw [h7]; exact hr) (64 * b + 4 + 7 * i) (by rw [h7]; omega)
  rw [andW_ones hA (by rw [h7]; exact hones), h7] at e
  have ea : pgAt (b : Int) (i : Int) = ((64 * b + 4 + 7 * i : Nat) : Int) := by
    unfold pgAt
    rw [if_pos (by omega)]
    omega
  have ep : mPut d x b i pg = (after d mo 7 (ovl d.f.chip.ws (pgWs pg) (64 * b + 4 + 7 * i)), { x with bs := viewOf k (ovl d.f.chip.ws (pgWs pg) (64 * b + 4 + 7 * i)) }, 0) := by
    unfold mPut
    rw [ea, e]
    dsimp only
    rw [if_neg (by decide), view_put hl hb hi (by rw [view_N hb]; exact hh) hp, ← hv]
  refine ⟨mo, ep, ?_⟩
  rw [ep]
  rw [e] at hL
  exact hL
end
end Go.Proofs.YtpkkejdjhnmjiaaGreat
namespace Go.Proofs.YtpkkejdjhnmjiaaGreat
open Go.RowKit Bm
structure Sys (k : Nat) (d : DrvM) (x : StoM) : Prop where
  live : Live k d
  view : x.bs = viewOf k d.f.chip.ws
structure Spent (n : Nat) (d d' : DrvM) : Prop where
  left : d'.f.chip.left = burn n d.f.chip
  wear : d'.f.chip.wear = d.f.chip.wear
  endure : d'.f.chip.endure = d.f.chip.endure
  pick : d'.f.chip.pick = d.f.chip.pick
structure Worn (n b : Nat) (d d' : DrvM) : Prop where
  left : d'.f.chip.left = burn n d.f.chip
  wear : d'.f.chip.wear = d.f.chip.wear.set b (nm d.f.chip.wear b + 1)
  endure : d'.f.chip.endure = d.f.chip.endure
  pick : d'.f.chip.pick = d.f.chip.pick
def putB (bs : List BlkM) (b i : Nat) (pg : PageM) : List BlkM := bs.set b { bkN bs b with kinds := (bkN bs b).kinds.set i 1, pages := (bkN bs b).pages.set i pg }
section
variable {k b i : Nat} {d : DrvM} {x : StoM} {ws : List (BitVec 32)}
theorem Sys.put (h : Sys k d x) (hr : Room 7 d.f.chip) (hb : b < k) (hi : i < 8) (hh : (bkN x.bs b).head = 1) (hk : nm (bkN x.bs b).kinds i = 0) {pg : PageM} (hp : pgOk pg = true) :
    ∃ d', mPut d x b i pg = (d', { x with bs := putB x.bs b i pg }, 0) ∧ Sys k d' { x with bs := putB x.bs b i pg } ∧ Spent 7 d d' := by
  have hl := h.live.ok.ok.chip.words
  obtain ⟨mo, e, hL⟩ := mPut_live h.live hr h.view hb hi hh hk hp
  have hv : putB x.bs b i pg = viewOf k (ovl d.f.chip.ws (pgWs pg) (64 * b + 4 + 7 * i)) := by
    unfold putB
    rw [view_put hl hb hi (by rw [← h.view]; exact hh) hp, ← h.view]
  rw [← hv] at e
  refine ⟨_, e, ?_, ⟨rfl, rfl, rfl, rfl⟩⟩
  rw [e] at hL
  exact ⟨hL, hv⟩
theorem hd_le {xs : List (BitVec 32)} (h : (hdRd xs).2 = 1) : U (hdRd xs).1 ≤ 2147483648 := by
  unfold hdRd at h ⊢
  by_cases hl : xs.length = 4
  · rw [if_pos hl] at h ⊢
    by_cases hf : freeB xs = true
    · rw [if_pos hf]
      decide
    · rw [if_neg hf] at h ⊢
      by_cases he : hdWs (wd xs 1) = xs
      · rw [if_pos he]
        apply Classical.byContradiction
        intro hn
        rw [hdWs_no hn] at he
        rw [← he] at hl
        cases hl
      · rw [if_neg he] at h
        cases h
  · rw [if_neg hl] at h
    cases h
theorem counts_le (l : List BlkM) : ∀ (n : BitVec 32), U n ≤ 2147483648 → (∀ c ∈ l, c.head = 1 → U c.count ≤ 2147483648) → U (l.foldl bkMax n) ≤ 2147483648 := by
  induction l with
  | nil => intro n hn _; exact hn
  | cons c l ih =>
    intro n hn h
    rw [List.foldl_cons]
    refine ih _ ?_ (fun e he => h e (List.mem_cons_of_mem _ he))
    unfold bkMax
    split
    · next hc => exact h c List.mem_cons_self hc.1
    · exact hn
theorem nc_le (_hb : b < k) : U (ncM (viewOf k ws) b) ≤ 2147483648 := by
  unfold ncM
  split
  · split
    · assumption
    · decide
  · split
    · decide
    · refine counts_le _ _ (by decide) (fun c hc h1 => ?_)
      obtain ⟨j, hj, rfl⟩ := List.mem_map.1 hc
      exact hd_le h1
theorem new_view (hl : ws.length = k * 64) (hb : b < k) {c : BitVec 32} (hc : U c ≤ 2147483648) (ho : ∀ i, i < 64 → wd ws (64 * b + i) = 4294967295#32) :
    bkOf (chunk (ovl ws (hdWs c) (64 * b)) b) = blkG c := by
  have h4 : (hdWs c).length = 4 := by rw [hdWs_yes hc]; rfl
  have hA : 64 * b + (hdWs c).length ≤ ws.length := by rw [h4, hl]; omega
  have hw : win (ovl ws (hdWs c) (64 * b)) (64 * b) 4 = hdWs c := by
    have := win_same hA
    rwa [h4] at this
  have hp : ∀ i, i < 8 → win (ovl ws (hdWs c) (64 * b)) (64 * b + 4 + 7 * i) 7 = onesW 7 := fun i hi => by
    rw [win_far hA (by rw [h4]; omega)]
    apply List.ext_getElem?
    intro j
    rw [win_get]
    unfold onesW
    rw [List.getElem?_replicate]
    by_cases hj : j < 7
    · rw [if_pos hj, if_pos hj, wd_get (by omega), show 64 * b + 4 + 7 * i + j = 64 * b + (4 + 7 * i + j) by omega, ho _ (by omega)]
    · rw [if_neg hj, if_neg hj]
  have hh : hdRd (win (ovl ws (hdWs c) (64 * b)) (64 * b) 4) = (c, 1) := by rw [hw]; exact hdRd_ws hc
  rw [bkOf_win, hh]
  have e1 : (List.range 8).map (fun i => if (1 : Int) = 1 then (pgRd (win (ovl ws (hdWs c) (64 * b)) (64 * b + 4 + 7 * i) 7)).2 else 2) = List.replicate 8 0 := by
    rw [List.map_congr_left (g := fun _ => (0 : Int)) (fun i hi => by rw [hp i (List.mem_range.1 hi), ones_read]; rfl)]
    rfl
  have e2 : (List.range 8).map (fun i => if (1 : Int) = 1 then (pgRd (win (ovl ws (hdWs c) (64 * b)) (64 * b + 4 + 7 * i) 7)).1 else pg0) = List.replicate 8 pg0 := by
    rw [List.map_congr_left (g := fun _ => pg0) (fun i hi => by rw [hp i (List.mem_range.1 hi), ones_read]; rfl)]
    rfl
  rw [e1, e2]
  rfl
theorem burn_two {n m : Nat} {c c' : ChipM} (hc : c'.left = burn n c) (hr : Room (n + m) c) : burn m c' = burn (n + m) c ∧ Room m c' := by
  unfold burn Room at *
  rw [hc]
  rcases hr with hr | hr
  · rw [if_pos hr, if_pos rfl, if_pos hr]
    exact ⟨rfl, .inl rfl⟩
  · rw [if_neg (show ¬ c.left = 0 by omega), if_neg (show ¬ c.left - (n : Int) = 0 by omega), if_neg (show ¬ c.left = 0 by omega)]
    exact ⟨by omega, .inr (by omega)⟩
theorem Sys.remake (h : Sys k d x) (hr : Room 6 d.f.chip) (hb : b < k) (hw : nm d.f.chip.wear b < d.f.chip.endure) :
    ∃ d', mRemake d x b = (d', { x with bs := x.bs.set b (blkG (ncM x.bs b)) }, 0) ∧ Sys k d' { x with bs := x.bs.set b (blkG (ncM x.bs b)) } ∧ Worn 6 b d d' := by
  have hl := h.live.ok.ok.chip.words
  have hnc : U (ncM x.bs b) ≤ 2147483648 := by rw [h.view]; exact nc_le hb
  obtain ⟨c, hc⟩ : ∃ c, c = ncM x.bs b := ⟨_, rfl⟩
  rw [← hc] at hnc ⊢
  obtain ⟨mo, e1, L1⟩ := dProgram_live [0#32] h.live (hr.less (by decide)) (64 * b + 3) (by simp; omega)
  have l1 : ([0#32] : List (BitVec 32)).length = 1 := rfl
  rw [l1] at e1
  obtain ⟨d1, hd1⟩ : ∃ d1, d1 = after d mo 1 (andW d.f.chip.ws (64 * b + 3) [0#32]) := ⟨_, rfl⟩
  rw [← hd1] at e1
  rw [e1] at L1
  have c1 : d1.f.chip.left = burn 1 d.f.chip := by rw [hd1]; rfl
  have w1 : d1.f.chip.wear = d.f.chip.wear := by rw [hd1]; rfl
  have n1 : d1.f.chip.endure = d.f.chip.endure := by rw [hd1]; rfl
  have p1 : d1.f.chip.pick = d.f.chip.pick := by rw [hd1]; rfl
  have s1 : d1.f.chip.ws = andW d.f.chip.ws (64 * b + 3) [0#32] := by rw [hd1]; rfl
  obtain ⟨b1, r1⟩ := burn_two (n := 1) (m := 5) c1 hr
  obtain ⟨e2, L2⟩ := dErase_live L1 (r1.less (by omega)) b hb (by rw [w1, n1]; exact hw)
  obtain ⟨d2, hd2⟩ : ∃ d2, d2 = (dErase d1 b).1 := ⟨_, rfl⟩
  have e2' : dErase d1 b = (d2, 0) := by rw [hd2, e2]
  rw [← hd2] at L2
  have c2 : d2.f.chip.left = burn 1 d1.f.chip := by rw [hd2, e2]
  have w2 : d2.f.chip.wear = d1.f.chip.wear.set b (nm d1.f.chip.wear b + 1) := by rw [hd2, e2]
  have n2 : d2.f.chip.endure = d1.f.chip.endure := by rw [hd2, e2]
  have p2 : d2.f.chip.pick = d1.f.chip.pick := by rw [hd2, e2]
  have s2 : d2.f.chip.ws = eraseTo d1.f.chip.ws b 64 4294967295#32 := by rw [hd2, e2]
  obtain ⟨b2, r2⟩ := burn_two (n := 1) (m := 4) c2 r1
  have h4 : (hdWs c).length = 4 := by rw [hdWs_yes hnc]; rfl
  have hl2 : d2.f.chip.ws.length = k * 64 := L2.ok.ok.chip.words
  have hl1 : d1.f.chip.ws.length = k * 64 := L1.ok.ok.chip.words
  have ho : ∀ i, i < 64 → wd d2.f.chip.ws (64 * b + i) = 4294967295#32 := fun i hi => by
    have := wd_get (ws := d2.f.chip.ws) (i := 64 * b + i) (by omega)
    rw [s2, erased_get, if_pos (by omega)] at this
    rw [s2]
    exact (Option.some.inj this).symm
  obtain ⟨mo3, e3, L3⟩ := dProgram_live (hdWs c) L2 (by rw [h4]; exact r2) (64 * b) (by rw [h4]; omega)
  have h1 : win d2.f.chip.ws (64 * b) (hdWs c).length = onesW (hdWs c).length := by
    rw [h4]
    apply List.ext_getElem?
    intro j
    rw [win_get]
    unfold onesW
    rw [List.getElem?_replicate]
    by_cases hj : j < 4
    · rw [if_pos hj, if_pos hj, wd_get (by omega), ho _ (by omega)]
    · rw [if_neg hj, if_neg hj]
  rw [andW_ones (by rw [h4]; omega) h1, h4] at e3
  obtain ⟨d3, hd3⟩ : ∃ d3, d3 = after d2 mo3 4 (ovl d2.f.chip.ws (hdWs c) (64 * b)) := ⟨_, rfl⟩
  rw [← hd3] at e3
  rw [e3] at L3
  have s3 : d3.f.chip.ws = ovl d2.f.chip.ws (hdWs c) (64 * b) := by rw [hd3]; rfl
  have hview : x.bs.set b (blkG c) = viewOf k d3.f.chip.ws := by
    have hfar : ∀ j, j < k → j ≠ b → chunk d3.f.chip.ws j = chunk d.f.chip.ws j := fun j hj hne => by
      rw [s3, chunk_far (by rw [h4]; omega) (by rw [h4]; omega)]
      refine bkOf_congr fun i hi => ?_
      rw [s2, erased_get, if_neg (by omega), s1, andW_get _ _ _ (by rw [l1, hl]; omega), if_neg (by rw [l1]; omega)]
    rw [view_set hb hfar, s3, new_view hl2 hb hnc ho, ← h.view]
  have em : mRemake d x b = (d3, { x with bs := x.bs.set b (blkG c) }, 0) := by
    unfold mRemake
    rw [show ((b : Int) * 64 + 3) = ((64 * b + 3 : Nat) : Int) by omega, e1]
    dsimp only
    rw [if_neg (by decide), e2']
    dsimp only
    rw [if_neg (by decide), ← hc, show (b : Int) * 64 = ((64 * b : Nat) : Int) by omega, e3]
    dsimp only
    rw [if_neg (by decide)]
  refine ⟨d3, em, ⟨L3, hview⟩, ?_, ?_, ?_, ?_⟩
  · have : d3.f.chip.left = burn 4 d2.f.chip := by rw [hd3]; rfl
    rw [this, b2, b1]
  · have : d3.f.chip.wear = d2.f.chip.wear := by rw [hd3]; rfl
    rw [this, w2, w1]
  · have : d3.f.chip.endure = d2.f.chip.endure := by rw [hd3]; rfl
    rw [this, n2, n1]
  · have : d3.f.chip.pick = d2.f.chip.pick := by rw [hd3]; rfl
    rw [this, p2, p1]
end
end Go.Proofs.YtpkkejdjhnmjiaaGreat
namespace Go.Proofs.YtpkkejdjhnmjiaaGreat
open Go.RowKit Bm
section
variable {bs : List BlkM} {b i k : Nat} {pg : PageM}
theorem nm_set (l : List Int) (i j : Nat) (v : Int) (h : i < l.length) : nm (l.set i v) j = if j = i then v else nm l j := by
  unfold nm
  rw [List.getD_eq_getElem?_getD, List.getD_eq_getElem?_getD]
  by_cases e : j = i
  · subst e
    rw [List.getElem?_set_self h, if_pos rfl]
    rfl
  · rw [List.getElem?_set_ne (Ne.symm e), if_neg e]
theorem pgN_set (l : List PageM) (i j : Nat) (v : PageM) (h : i < l.length) : pgN (l.set i v) j = if j = i then v else pgN l j := by
  unfold pgN
  rw [List.getD_eq_getElem?_getD, List.getD_eq_getElem?_getD]
  by_cases e : j = i
  · subst e
    rw [List.getElem?_set_self h, if_pos rfl]
    rfl
  · rw [List.getElem?_set_ne (Ne.symm e), if_neg e]
theorem putB_len : (putB bs b i pg).length = bs.length := by simp [putB]
theorem putB_N (hb : b < bs.length) (c : Nat) : bkN (putB bs b i pg) c = if c = b then { bkN bs b with kinds := (bkN bs b).kinds.set i 1, pages := (bkN bs b).pages.set i pg } else bkN bs c := by
  unfold putB
  rw [bkN_set hb]
theorem putB_head (hb : b < bs.length) (c : Nat) : (bkN (putB bs b i pg) c).head = (bkN bs c).head := by
  rw [putB_N hb]
  split
  · next e => rw [e]
  · rfl
theorem putB_kind (hb : b < bs.length) (hk : BlkOk (bkN bs b)) (hi : i < 8) (c j : Nat) : nm (bkN (putB bs b i pg) c).kinds j = if c = b ∧ j = i then 1 else nm (bkN bs c).kinds j := by
  rw [putB_N hb]
  by_cases e : c = b
  · subst e
    rw [if_pos rfl]
    dsimp only
    rw [nm_set _ _ _ _ (by rw [hk.k]; exact hi)]
    by_cases ej : j = i
    · rw [if_pos ej, if_pos ⟨rfl, ej⟩]
    · rw [if_neg ej, if_neg (fun h => ej h.2)]
  · rw [if_neg e, if_neg (fun h => e h.1)]
theorem putB_page (hb : b < bs.length) (hk : BlkOk (bkN bs b)) (hi : i < 8) (c j : Nat) : pgN (bkN (putB bs b i pg) c).pages j = if c = b ∧ j = i then pg else pgN (bkN bs c).pages j := by
  rw [putB_N hb]
  by_cases e : c = b
  · subst e
    rw [if_pos rfl]
    dsimp only
    rw [pgN_set _ _ _ _ (by rw [hk.p]; exact hi)]
    by_cases ej : j = i
    · rw [if_pos ej, if_pos ⟨rfl, ej⟩]
    · rw [if_neg ej, if_neg (fun h => ej h.2)]
  · rw [if_neg e, if_neg (fun h => e h.1)]
theorem mem_putB (hb : b < bs.length) (hk : BlkOk (bkN bs b)) (hi : i < 8) (h0 : nm (bkN bs b).kinds i = 0) {y : PlM} : y ∈ cnt (putB bs b i pg) ↔ y = ⟨b, i, pg⟩ ∨ y ∈ cnt bs := by
  rw [mem_cnt, mem_cnt, putB_len]
  constructor
  · rintro ⟨c, j, hc, hj, h1, e⟩
    rw [putB_kind hb hk hi] at h1
    rw [putB_page hb hk hi] at e
    by_cases hcj : c = b ∧ j = i
    · rw [if_pos hcj] at e
      rw [hcj.1, hcj.2] at e
      exact .inl e
    · rw [if_neg hcj] at h1 e
      exact .inr ⟨c, j, hc, hj, h1, e⟩
  · rintro (e | ⟨c, j, hc, hj, h1, e⟩)
    · exact ⟨b, i, hb, hi, by rw [putB_kind hb hk hi, if_pos ⟨rfl, rfl⟩], by rw [putB_page hb hk hi, if_pos ⟨rfl, rfl⟩]; exact e⟩
    · have hcj : ¬ (c = b ∧ j = i) := fun h => by
        rw [h.1, h.2, h0] at h1
        cases h1
      exact ⟨c, j, hc, hj, by rw [putB_kind hb hk hi, if_neg hcj]; exact h1, by rw [putB_page hb hk hi, if_neg hcj]; exact e⟩
theorem blkG_kind (c : BitVec 32) (i : Nat) : nm (blkG c).kinds i = 0 := by
  unfold nm blkG
  dsimp only
  rw [List.getD_eq_getElem?_getD, List.getElem?_replicate]
  split <;> rfl
theorem mem_setG (hb : b < bs.length) (c : BitVec 32) {y : PlM} : y ∈ cnt (bs.set b (blkG c)) ↔ y ∈ cnt bs ∧ y.b ≠ (b : Int) := by
  rw [mem_cnt, mem_cnt, List.length_set]
  constructor
  · rintro ⟨e, j, he, hj, h1, ey⟩
    rw [bkN_set hb] at h1 ey
    by_cases h : e = b
    · rw [if_pos h, blkG_kind] at h1
      cases h1
    · rw [if_neg h] at h1 ey
      exact ⟨⟨e, j, he, hj, h1, ey⟩, by rw [ey]; show (e : Int) ≠ b; omega⟩
  · rintro ⟨⟨e, j, he, hj, h1, ey⟩, hne⟩
    have h : e ≠ b := fun h => hne (by rw [ey, h])
    exact ⟨e, j, he, hj, by rw [bkN_set hb, if_neg h]; exact h1, by rw [bkN_set hb, if_neg h]; exact ey⟩
structure Top (bs : List BlkM) (s : BitVec 32) (y : PlM) : Prop where
  mem : y ∈ cnt bs
  sec : y.p.s = s
  max : ∀ z ∈ cnt bs, z.p.s = s → U z.p.q ≤ U y.p.q
def Latest (bs : List BlkM) (s : BitVec 32) : Option PageM := (best (cnt bs) s).map (·.p)
theorem best_top {s : BitVec 32} {y : PlM} (h : best (cnt bs) s = some y) : Top bs s y := by
  obtain ⟨h1, h2, h3⟩ := best_some _ _ _ h
  exact ⟨h1, h2, h3⟩
theorem latest_none {s : BitVec 32} : Latest bs s = none ↔ ∀ y ∈ cnt bs, y.p.s ≠ s := by
  unfold Latest
  rw [Option.map_eq_none_iff, best_none]
theorem latest_some {s : BitVec 32} {p : PageM} (h : Latest bs s = some p) : ∃ y, Top bs s y ∧ y.p = p := by
  unfold Latest at h
  rw [Option.map_eq_some_iff] at h
  obtain ⟨y, hy, rfl⟩ := h
  exact ⟨y, best_top hy, rfl⟩
def valOf (o : Option PageM) : List (BitVec 32) := d4OfM (o.getD pg0)
where d4OfM (p : PageM) : List (BitVec 32) := [p.d0, p.d1, p.d2, p.d3]
end
end Go.Proofs.YtpkkejdjhnmjiaaGreat
namespace Go.Proofs.YtpkkejdjhnmjiaaGreat
open Go.RowKit Bm
def PgS (bs : List BlkM) (p : PageM) : Prop := ∃ y ∈ cnt bs, y.p = p
structure TopP (A : PageM → Prop) (s : BitVec 32) (p : PageM) : Prop where
  mem : A p
  sec : p.s = s
  max : ∀ z, A z → z.s = s → U z.q ≤ U p.q
def UnP (A : PageM → Prop) : Prop := ∀ s p r, TopP A s p → TopP A s r → p = r
section
variable {bs bs' : List BlkM} {s : BitVec 32} {p pg : PageM} {A A' : PageM → Prop}
theorem top_pg {y : PlM} (h : Top bs s y) : TopP (PgS bs) s y.p := ⟨⟨y, h.mem, rfl⟩, h.sec, fun z hz he => by
  obtain ⟨x, hx, rfl⟩ := hz
  exact h.max x hx he⟩
theorem latest_iff (hu : UnP (PgS bs)) : Latest bs s = some p ↔ TopP (PgS bs) s p := by
  constructor
  · intro h
    obtain ⟨y, hy, rfl⟩ := latest_some h
    exact top_pg hy
  · intro h
    cases hl : Latest bs s with
    | none =>
      obtain ⟨y, hy, e⟩ := h.mem
      exact absurd (by rw [e]; exact h.sec) (latest_none.1 hl y hy)
    | some r =>
      obtain ⟨y, hy, rfl⟩ := latest_some hl
      rw [hu s _ _ (top_pg hy) h]
theorem latest_none_iff : Latest bs s = none ↔ ∀ p, PgS bs p → p.s ≠ s := by
  rw [latest_none]
  constructor
  · rintro h p ⟨y, hy, rfl⟩
    exact h y hy
  · exact fun h y hy => h _ ⟨y, hy, rfl⟩
theorem top_congr (h : ∀ z, z.s = s → (A z ↔ A' z)) : TopP A s p ↔ TopP A' s p := by
  constructor
  · intro t
    exact ⟨(h p t.sec).1 t.mem, t.sec, fun z hz he => t.max z ((h z he).2 hz) he⟩
  · intro t
    exact ⟨(h p t.sec).2 t.mem, t.sec, fun z hz he => t.max z ((h z he).1 hz) he⟩
def Val (bs : List BlkM) (s : BitVec 32) : List (BitVec 32) := valOf.d4OfM ((Latest bs s).getD pg0)
theorem val_top (hu : UnP (PgS bs)) (h : TopP (PgS bs) s p) : Val bs s = valOf.d4OfM p := by
  unfold Val
  rw [(latest_iff hu).2 h]
  rfl
theorem val_none (h : ∀ p, PgS bs p → p.s ≠ s) : Val bs s = valOf.d4OfM pg0 := by
  unfold Val
  rw [latest_none_iff.2 h]
  rfl
theorem top_or (hu : UnP (PgS bs)) (s : BitVec 32) : (∃ p, TopP (PgS bs) s p) ∨ ∀ p, PgS bs p → p.s ≠ s := by
  cases hl : Latest bs s with
  | none => exact .inr (latest_none_iff.1 hl)
  | some p => exact .inl ⟨p, (latest_iff hu).1 hl⟩
theorem val_congr (hu : UnP (PgS bs)) (hu' : UnP (PgS bs')) (h : ∀ z, z.s = s → (PgS bs z ↔ PgS bs' z)) : Val bs' s = Val bs s := by
  rcases top_or hu s with ⟨p, hp⟩ | hn
  · rw [val_top hu hp, val_top hu' ((top_congr h).1 hp)]
  · rw [val_none hn, val_none fun p hp e => hn p ((h p e).2 hp) e]
theorem un_new (hA : UnP A) (hA' : ∀ z, A' z ↔ z = pg ∨ A z) (hq : ∀ z, A z → z.s = pg.s → U z.q < U pg.q) : UnP A' ∧ TopP A' pg.s pg := by
  have ht : TopP A' pg.s pg := ⟨(hA' pg).2 (.inl rfl), rfl, fun z hz he => by
    rcases (hA' z).1 hz with rfl | hz
    · exact Int.le_refl _
    · exact Int.le_of_lt (hq z hz he)⟩
  refine ⟨fun s p r hp hr => ?_, ht⟩
  by_cases e : s = pg.s
  · have key : ∀ x, TopP A' s x → x = pg := fun x hx => by
      rcases (hA' x).1 hx.mem with h | h
      · exact h
      · have h1 := hq x h (hx.sec.trans e)
        have h2 := hx.max pg ht.mem e.symm
        omega
    rw [key p hp, key r hr]
  · have hc : ∀ z, z.s = s → (A' z ↔ A z) := fun z hz => (hA' z).trans ⟨fun h => h.elim (fun h => absurd (by rw [← hz, h]) e) id, .inr⟩
    exact hA s p r ((top_congr hc).1 hp) ((top_congr hc).1 hr)
theorem val_new (hu : UnP (PgS bs)) (hA' : ∀ z, PgS bs' z ↔ z = pg ∨ PgS bs z) (hq : ∀ z, PgS bs z → z.s = pg.s → U z.q < U pg.q) (s : BitVec 32) :
    Val bs' s = if s = pg.s then valOf.d4OfM pg else Val bs s := by
  obtain ⟨hu', ht⟩ := un_new hu hA' hq
  by_cases e : s = pg.s
  · rw [if_pos e, e, val_top hu' ht]
  · rw [if_neg e]
    exact val_congr hu hu' fun z hz => ⟨fun h => (hA' z).2 (.inr h), fun h => ((hA' z).1 h).elim (fun h => absurd (by rw [← hz, h]) e) id⟩
inductive Kept (A O : PageM → Prop) (ms : List PageM) (s : BitVec 32) : Prop
  | else_ : (∀ m ∈ ms, m.s ≠ s) → (∀ p, TopP A s p → O p) → Kept A O ms s
  | gone (p : PageM) : (∀ m ∈ ms, m.s ≠ s) → TopP A s p → p.g = true → (∀ z, O z → z.s ≠ s) → Kept A O ms s
  | moved (p m : PageM) : m ∈ ms → m.s = s → (∀ r ∈ ms, r.s = s → r = m) → TopP A s p → m = { p with q := m.q } → (∀ z, O z → z.s = s → U z.q < U m.q) → Kept A O ms s
theorem un_kept {O : PageM → Prop} {ms : List PageM} (hu : UnP A) (hO : ∀ z, O z → A z) (hA' : ∀ z, A' z ↔ O z ∨ z ∈ ms) (hk : ∀ s, (∃ z, A z ∧ z.s = s) → Kept A O ms s) (hm : ∀ m ∈ ms, ∃ z, A z ∧ z.s = m.s) (htop : ∀ s, (∃ z, A z ∧ z.s = s) → ∃ p, TopP A s p) : UnP A' := by
  intro s p r hp hr
  have hex : ∃ z, A z ∧ z.s = s := by
    rcases (hA' p).1 hp.mem with h | h
    · exact ⟨p, hO p h, hp.sec⟩
    · obtain ⟨z, h1, h2⟩ := hm p h
      exact ⟨z, h1, h2.trans hp.sec⟩
  have nom : (∀ m ∈ ms, m.s ≠ s) → ∀ x, TopP A' s x → O x := fun h x hx => ((hA' x).1 hx.mem).elim id fun hxm => absurd hx.sec (h x hxm)
  cases hk s hex with
  | else_ h1 h2 =>
    obtain ⟨t, ht⟩ := htop s hex
    have key : ∀ x, TopP A' s x → TopP A s x := fun x hx => by
      have hx2 := nom h1 x hx
      have hm := hx.max t ((hA' t).2 (.inl (h2 t ht))) ht.sec
      exact ⟨hO x hx2, hx.sec, fun z hz he => Int.le_trans (ht.max z hz he) hm⟩
    exact hu s p r (key p hp) (key r hr)
  | gone t h1 h2 h3 h4 => exact absurd hp.sec (h4 p (nom h1 p hp))
  | moved t m h1 h2 h3 h4 h5 h6 =>
    have key : ∀ x, TopP A' s x → x = m := fun x hx => by
      rcases (hA' x).1 hx.mem with h | h
      · have := h6 x h hx.sec
        have := hx.max m ((hA' m).2 (.inr h1)) h2
        omega
      · exact h3 x h hx.sec
    rw [key p hp, key r hr]
theorem val_kept {O : PageM → Prop} {ms : List PageM} (hu : UnP (PgS bs)) (hu' : UnP (PgS bs')) (hO : ∀ z, O z → PgS bs z) (hA' : ∀ z, PgS bs' z ↔ O z ∨ z ∈ ms) (hm : ∀ m ∈ ms, ∃ z, PgS bs z ∧ z.s = m.s) (hg : ∀ p, PgS bs p → p.g = true → valOf.d4OfM p = valOf.d4OfM pg0) (s : BitVec 32) (hk : (∃ z, PgS bs z ∧ z.s = s) → Kept (PgS bs) O ms s) : Val bs' s = Val bs s := by
  rcases top_or hu s with ⟨t, ht⟩ | hn
  · cases hk ⟨t, ht.mem, ht.sec⟩ with
    | else_ h1 h2 =>
      have ht' : TopP (PgS bs') s t := ⟨(hA' t).2 (.inl (h2 t ht)), ht.sec, fun z hz he => ((hA' z).1 hz).elim (fun h => ht.max z (hO z h) he) fun h => absurd he (h1 z h)⟩
      rw [val_top hu ht, val_top hu' ht']
    | gone p h1 h2 h3 h4 =>
      rw [val_top hu h2, hg p h2.mem h3]
      exact val_none fun z hz => ((hA' z).1 hz).elim (h4 z) (h1 z)
    | moved p m h1 h2 h3 h4 h5 h6 =>
      have ht' : TopP (PgS bs') s m := ⟨(hA' m).2 (.inr h1), h2, fun z hz he => ((hA' z).1 hz).elim (fun h => Int.le_of_lt (h6 z h he)) fun h => by rw [h3 z h he]; exact Int.le_refl _⟩
      rw [val_top hu h4, val_top hu' ht', h5]
      rfl
  · rw [val_none hn]
    refine val_none fun z hz he => ?_
    rcases (hA' z).1 hz with h | h
    · exact hn z (hO z h) he
    · obtain ⟨x, hx, hxs⟩ := hm z h
      exact hn x hx (hxs.trans he)
end
end Go.Proofs.YtpkkejdjhnmjiaaGreat
namespace Go.Proofs.YtpkkejdjhnmjiaaGreat
open Go.RowKit Bm Go.Shelf
section
variable {bs rs : List BlkM} {M : List PlM} {b i k : Nat}
theorem mask_N {x : PlM} (hx : x.b.toNat < rs.length) (c : Nat) : bkN (maskS rs x) c = if c = x.b.toNat then maskB (bkN rs c) x.p.s 8 else bkN rs c := by
  unfold maskS
  rw [bkN_set hx]
  by_cases e : c = x.b.toNat
  · rw [if_pos e, if_pos e, e]
  · rw [if_neg e, if_neg e]
theorem maskB_kind (y : BlkM) (s : BitVec 32) (hi : i < 8) : nm (maskB y s 8).kinds i = if (pgN y.pages i).s = s then 2 else nm y.kinds i := by
  unfold maskB
  dsimp only
  have e : nm ((List.range 8).map fun i => if i < 8 ∧ (pgN y.pages i).s = s then (2 : Int) else nm y.kinds i) i = if i < 8 ∧ (pgN y.pages i).s = s then 2 else nm y.kinds i := by
    conv => lhs; unfold nm
    rw [List.getD_eq_getElem?_getD, List.getElem?_map, List.getElem?_range hi]
    rfl
  rw [e]
  by_cases h : (pgN y.pages i).s = s
  · rw [if_pos ⟨hi, h⟩, if_pos h]
  · rw [if_neg (fun e => h e.2), if_neg h]
theorem masks_page : ∀ (M : List PlM) (rs : List BlkM), (∀ x ∈ M, x.b.toNat < rs.length) → ∀ c, (bkN (M.foldl maskS rs) c).pages = (bkN rs c).pages
  | [], _, _, _ => rfl
  | x :: M, rs, h, c => by
    rw [List.foldl_cons, masks_page M _ (fun y hy => by simp only [maskS, List.length_set]; exact h y (List.mem_cons_of_mem _ hy)), mask_N (h x List.mem_cons_self)]
    split <;> rfl
theorem masks_kind (hi : i < 8) : ∀ (M : List PlM) (rs : List BlkM), (∀ x ∈ M, x.b.toNat < rs.length) → ∀ c, nm (bkN (M.foldl maskS rs) c).kinds i = if ∃ x ∈ M, x.b.toNat = c ∧ x.p.s = (pgN (bkN rs c).pages i).s then 2 else nm (bkN rs c).kinds i
  | [], _, _, c => by rw [if_neg (fun ⟨x, hx, _⟩ => by cases hx)]; rfl
  | x :: M, rs, h, c => by
    have hx := h x List.mem_cons_self
    rw [List.foldl_cons, masks_kind hi M _ (fun y hy => by simp only [maskS, List.length_set]; exact h y (List.mem_cons_of_mem _ hy)), mask_N hx]
    have hp : (pgN (if c = x.b.toNat then maskB (bkN rs c) x.p.s 8 else bkN rs c).pages i) = pgN (bkN rs c).pages i := by split <;> rfl
    rw [hp]
    by_cases h1 : ∃ y ∈ M, y.b.toNat = c ∧ y.p.s = (pgN (bkN rs c).pages i).s
    · obtain ⟨y, hy, hyc, hys⟩ := h1
      rw [if_pos ⟨y, hy, hyc, hys⟩, if_pos ⟨y, List.mem_cons_of_mem _ hy, hyc, hys⟩]
    · rw [if_neg h1]
      by_cases e : c = x.b.toNat
      · rw [if_pos e, maskB_kind _ _ hi]
        by_cases es : (pgN (bkN rs c).pages i).s = x.p.s
        · rw [if_pos es, if_pos ⟨x, List.mem_cons_self, e.symm, es.symm⟩]
        · rw [if_neg es, if_neg]
          rintro ⟨y, hy, hyc, hys⟩
          rcases List.mem_cons.1 hy with rfl | hy
          · exact es hys.symm
          · exact h1 ⟨y, hy, hyc, hys⟩
      · rw [if_neg e, if_neg]
        rintro ⟨y, hy, hyc, hys⟩
        rcases List.mem_cons.1 hy with rfl | hy
        · exact e hyc.symm
        · exact h1 ⟨y, hy, hyc, hys⟩
def restOf (bs : List BlkM) : List BlkM := restM (lOf (cnt bs)) bs (lOf (cnt bs)).length
theorem mem_rest {y : PlM} : y ∈ cnt (restOf bs) ↔ y ∈ cnt bs ∧ ∀ x, best (cnt bs) y.p.s = some x → x.b ≠ y.b := by
  have hL : ∀ x ∈ lOf (cnt bs), x.b.toNat < bs.length := fun x hx => by
    obtain ⟨b, hb, e⟩ := of_in hx
    rw [e]
    omega
  have hr : restOf bs = (lOf (cnt bs)).foldl maskS bs := by
    unfold restOf restM
    rw [List.take_length]
  have hlen : (restOf bs).length = bs.length := restM_len _ _ _
  rw [mem_cnt, mem_cnt, hlen]
  have key : ∀ c j, j < 8 → nm (bkN (restOf bs) c).kinds j = 1 → nm (bkN bs c).kinds j = 1 ∧ ¬ ∃ x ∈ lOf (cnt bs), x.b.toNat = c ∧ x.p.s = (pgN (bkN bs c).pages j).s := fun c j hj h => by
    rw [hr, masks_kind hj _ _ hL] at h
    split at h
    · cases h
    · exact ⟨h, ‹_›⟩
  have hpg : ∀ c, (bkN (restOf bs) c).pages = (bkN bs c).pages := fun c => by rw [hr, masks_page _ _ hL]
  constructor
  · rintro ⟨c, j, hc, hj, h1, e⟩
    rw [hpg] at e
    obtain ⟨h2, h3⟩ := key c j hj h1
    refine ⟨⟨c, j, hc, hj, h2, e⟩, fun x hx hne => h3 ?_⟩
    have hm : lFind (lOf (cnt bs)) y.p.s = some x := (of_find _ _).trans hx
    refine ⟨x, (find_mem hm).1, ?_, ?_⟩
    · rw [hne, e]
      exact Int.toNat_natCast c
    · rw [(find_mem hm).2, e]
  · rintro ⟨⟨c, j, hc, hj, h1, e⟩, h2⟩
    refine ⟨c, j, hc, hj, ?_, by rw [hpg]; exact e⟩
    rw [hr, masks_kind hj _ _ hL, if_neg]
    · exact h1
    · rintro ⟨x, hx, hxc, hxs⟩
      have hb : best (cnt bs) y.p.s = some x := by rw [e]; show best (cnt bs) (pgN (bkN bs c).pages j).s = some x; rw [← hxs]; exact of_mem hx
      obtain ⟨b', hb', eb⟩ := of_in hx
      refine h2 x hb ?_
      rw [e, eb]
      show (b' : Int) = (c : Int)
      rw [eb] at hxc
      omega
theorem allG_is (bs : List BlkM) (s : BitVec 32) : allG bs s = (best (cnt bs) s).map fun x => (x, (best (cnt (restOf bs)) s).getD pl0) := by
  have h : allG bs s = G2 (lOf (cnt bs)) (lOf (cnt (restOf bs))) (lOf (cnt (restOf bs))).length s := rfl
  rw [h]
  unfold G2
  rw [List.take_length, of_find, of_find]
  cases hr : best (cnt (restOf bs)) s with
  | none => rfl
  | some o =>
    obtain ⟨h1, h2, _⟩ := best_some _ _ _ hr
    cases hb : best (cnt bs) s with
    | none => exact absurd h2 ((best_none _ _).1 hb o (mem_rest.1 h1).1)
    | some x => rfl
def OutS (bs : List BlkM) (b : Nat) (p : PageM) : Prop := ∃ y ∈ cnt bs, y.b ≠ (b : Int) ∧ y.p = p
theorem out_in {p : PageM} (h : OutS bs b p) : PgS bs p := by
  obtain ⟨y, h1, _, h3⟩ := h
  exact ⟨y, h1, h3⟩
theorem ok_q {p : PageM} (h : pgOk p = true) : 1 ≤ U p.q ∧ U p.q ≤ 2147483648 ∧ U p.s < 512 := by
  unfold pgOk at h
  simp only [Bool.and_eq_true, decide_eq_true_eq] at h
  exact ⟨h.2.1, h.2.2.1, h.1⟩
theorem ok_with {p : PageM} (h : pgOk p = true) {q : BitVec 32} (h1 : 1 ≤ U q) (h2 : U q ≤ 2147483648) : pgOk { p with q := q } = true := by
  unfold pgOk at h ⊢
  simp only [Bool.and_eq_true, decide_eq_true_eq] at h ⊢
  exact ⟨h.1, h1, h2, h.2.2.2⟩
theorem ok_gone {p : PageM} (h : pgOk p = true) (hg : p.g = true) : valOf.d4OfM p = valOf.d4OfM pg0 := by
  unfold pgOk at h
  simp only [Bool.and_eq_true, decide_eq_true_eq, hg, Bool.not_true, Bool.false_or] at h
  have := h.2.2.2
  unfold pgData0 at this
  simp only [Bool.and_eq_true, beq_iff_eq] at this
  unfold valOf.d4OfM pg0
  rw [this.1, this.2.1, this.2.2.1, this.2.2.2]
theorem ms_mem {k : Nat} {x : StoM} {m : PageM} (h : m ∈ mvAll k x b) : ∃ s : Nat, s < (k - 3) * 6 ∧ mvP (allG x.bs) s = some (b, m) := by
  unfold mvAll mvOf at h
  rw [List.mem_filterMap] at h
  obtain ⟨s, hs, hm⟩ := h
  refine ⟨s, List.mem_range.1 hs, ?_⟩
  unfold mvIn at hm
  split at hm
  · next z hz =>
    split at hm
    · next hb =>
      injection hm with hm
      rw [hz, ← hb, ← hm]
    · cases hm
  · cases hm
theorem mem_ms {k : Nat} {x : StoM} {m : PageM} {s : Nat} (hs : s < (k - 3) * 6) (h : mvP (allG x.bs) s = some (b, m)) : m ∈ mvAll k x b := by
  unfold mvAll mvOf
  rw [List.mem_filterMap]
  refine ⟨s, List.mem_range.2 hs, ?_⟩
  rw [h]
  exact if_pos rfl
theorem mv_is {bs : List BlkM} {s : Nat} {m : PageM} (h : mvP (allG bs) s = some (b, m)) : ∃ x, best (cnt bs) (BitVec.ofNat 32 s) = some x ∧ x.b = (b : Int) ∧
    m = { x.p with q := ((best (cnt (restOf bs)) (BitVec.ofNat 32 s)).getD pl0).p.q + 1#32 } ∧ ¬ (x.p = ((best (cnt (restOf bs)) (BitVec.ofNat 32 s)).getD pl0).p ∨ (x.p.g = true ∧ ((best (cnt (restOf bs)) (BitVec.ofNat 32 s)).getD pl0).p.q = 0#32)) := by
  unfold mvP at h
  rw [allG_is] at h
  cases hb : best (cnt bs) (BitVec.ofNat 32 s) with
  | none => rw [hb] at h; cases h
  | some x =>
    rw [hb] at h
    dsimp only [Option.map_some] at h
    split at h
    · cases h
    · next hn =>
      injection h with h
      injection h with h1 h2
      obtain ⟨c, i, hc, _, _, e⟩ := mem_cnt.1 (best_some _ _ _ hb).1
      refine ⟨x, rfl, ?_, h2.symm, hn⟩
      rw [e] at h1 ⊢
      show (c : Int) = (b : Int)
      have : (c : Int).toNat = b := h1
      omega
theorem mv_to {bs : List BlkM} {s : Nat} {x : PlM} (hb : best (cnt bs) (BitVec.ofNat 32 s) = some x) (hx : x.b = (b : Int)) (hn : ¬ (x.p = ((best (cnt (restOf bs)) (BitVec.ofNat 32 s)).getD pl0).p ∨ (x.p.g = true ∧ ((best (cnt (restOf bs)) (BitVec.ofNat 32 s)).getD pl0).p.q = 0#32))) :
    mvP (allG bs) s = some (b, { x.p with q := ((best (cnt (restOf bs)) (BitVec.ofNat 32 s)).getD pl0).p.q + 1#32 }) := by
  unfold mvP
  rw [allG_is, hb]
  dsimp only [Option.map_some]
  rw [if_neg hn, hx, Int.toNat_natCast]
theorem sec_inj {s t : Nat} (hs : s < 512) (ht : t < 512) (h : BitVec.ofNat 32 s = BitVec.ofNat 32 t) : s = t := by
  have h1 := U_ofNat s (by omega)
  have h2 := U_ofNat t (by omega)
  rw [h] at h1
  omega
theorem sec_of (s : BitVec 32) : s = BitVec.ofNat 32 s.toNat := by
  apply BitVec.eq_of_toNat_eq
  rw [BitVec.toNat_ofNat]
  exact (Nat.mod_eq_of_lt s.isLt).symm
theorem moves_keep {k : Nat} {x : StoM} (hk : k ≤ 64) (hu : UnP (PgS x.bs)) (hok : ∀ p, PgS x.bs p → pgOk p = true) (hS : ∀ p, PgS x.bs p → U p.s < (((k - 3) * 6 : Nat) : Int)) (hq : ∀ p, PgS x.bs p → U p.q < 2147483648) (s : BitVec 32) (hex : ∃ z, PgS x.bs z ∧ z.s = s) :
    Kept (PgS x.bs) (OutS x.bs b) (mvAll k x b) s := by
  have hne : best (cnt x.bs) s ≠ none := fun h => by
    obtain ⟨z, ⟨y, hy, rfl⟩, hz⟩ := hex
    exact (best_none _ _).1 h y hy hz
  obtain ⟨t, ht⟩ : ∃ t, best (cnt x.bs) s = some t := by
    cases h : best (cnt x.bs) s with
    | none => exact absurd h hne
    | some t => exact ⟨t, rfl⟩
  have htop := top_pg (best_top ht)
  have hts : U s < (((k - 3) * 6 : Nat) : Int) := by rw [← htop.sec]; exact hS _ htop.mem
  have hsn : s.toNat < (k - 3) * 6 := by unfold U at hts; omega
  have hse := sec_of s
  have hms : ∀ m ∈ mvAll k x b, m.s = s → mvP (allG x.bs) s.toNat = some (b, m) := fun m hm he => by
    obtain ⟨s', h1, h2⟩ := ms_mem hm
    obtain ⟨y, h3, h4, h5, _⟩ := mv_is h2
    have h6 : m.s = BitVec.ofNat 32 s' := by rw [h5]; exact (best_some _ _ _ h3).2.1
    have h7 : s' = s.toNat := sec_inj (by omega) (by omega) (by rw [← hse, ← he, h6])
    rw [← h7]
    exact h2
  rw [hse] at ht
  obtain ⟨o, ho⟩ : ∃ o, o = (best (cnt (restOf x.bs)) (BitVec.ofNat 32 s.toNat)).getD pl0 := ⟨_, rfl⟩
  have hmem : ∀ y, best (cnt (restOf x.bs)) (BitVec.ofNat 32 s.toNat) = some y → y ∈ cnt x.bs ∧ y.b ≠ t.b ∧ y.p.s = s ∧ o = y := fun y hy => by
    obtain ⟨h1, h2, _⟩ := best_some _ _ _ hy
    obtain ⟨h3, h4⟩ := mem_rest.1 h1
    rw [← hse] at h2
    refine ⟨h3, fun e => h4 t (by rw [h2, hse]; exact ht) e.symm, h2, ?_⟩
    rw [ho, hy]
    rfl
  by_cases htb : t.b = (b : Int)
  · by_cases hc : t.p = o.p
    · cases hr : best (cnt (restOf x.bs)) (BitVec.ofNat 32 s.toNat) with
      | none =>
        rw [hr] at ho
        have h1 := (ok_q (hok _ htop.mem)).1
        rw [hc, ho] at h1
        exact absurd h1 (by decide)
      | some y =>
        obtain ⟨h1, h2, h3, h4⟩ := hmem y hr
        refine .else_ (fun m hm he => ?_) (fun p hp => ?_)
        · obtain ⟨z, h5, _, _, h6⟩ := mv_is (hms m hm he)
          rw [ht] at h5
          injection h5 with h5
          subst h5
          rw [← ho] at h6
          exact h6 (.inl hc)
        · refine ⟨y, h1, by rw [← htb]; exact h2, ?_⟩
          rw [hu s p t.p hp htop, hc, h4]
    · by_cases hg : t.p.g = true ∧ o.p.q = 0#32
      · have hnone : best (cnt (restOf x.bs)) (BitVec.ofNat 32 s.toNat) = none := by
          cases hr : best (cnt (restOf x.bs)) (BitVec.ofNat 32 s.toNat) with
          | none => rfl
          | some y =>
            obtain ⟨h1, _, _, h4⟩ := hmem y hr
            have h5 := (ok_q (hok y.p ⟨y, h1, rfl⟩)).1
            rw [← h4, hg.2] at h5
            exact absurd h5 (by decide)
        refine .gone t.p (fun m hm he => ?_) htop hg.1 (fun z hz he => ?_)
        · obtain ⟨z, h5, _, _, h6⟩ := mv_is (hms m hm he)
          rw [ht] at h5
          injection h5 with h5
          subst h5
          rw [← ho] at h6
          exact h6 (.inr hg)
        · obtain ⟨y, hy, hyb, rfl⟩ := hz
          refine (best_none _ _).1 hnone y (mem_rest.2 ⟨hy, fun w hw => ?_⟩) (by rw [← hse]; exact he)
          rw [he, hse, ht] at hw
          injection hw with hw
          rw [← hw, htb]
          exact Ne.symm hyb
      · have hn : ¬ (t.p = o.p ∨ (t.p.g = true ∧ o.p.q = 0#32)) := fun h => h.elim hc hg
        rw [ho] at hn
        have hmv := mv_to ht htb hn
        rw [← ho] at hmv
        refine .moved t.p _ (mem_ms hsn hmv) (by exact htop.sec) (fun r hr he => ?_) htop rfl (fun z hz he => ?_)
        · have := hms r hr he
          rw [hmv] at this
          injection this with this
          injection this with _ this
          exact this.symm
        · obtain ⟨y, hy, hyb, rfl⟩ := hz
          have hyr : y ∈ cnt (restOf x.bs) := mem_rest.2 ⟨hy, fun w hw => by
            rw [he, hse, ht] at hw
            injection hw with hw
            rw [← hw, htb]
            exact Ne.symm hyb⟩
          cases hr : best (cnt (restOf x.bs)) (BitVec.ofNat 32 s.toNat) with
          | none => exact absurd (by rw [← hse]; exact he) ((best_none _ _).1 hr y hyr)
          | some v =>
            obtain ⟨h1, _, _, h4⟩ := hmem v hr
            have h5 := (best_some _ _ _ hr).2.2 y hyr (by rw [← hse]; exact he)
            have h6 := hq v.p ⟨v, h1, rfl⟩
            have h0 := U_nonneg v.p.q
            show U y.p.q < U (o.p.q + 1#32)
            rw [h4, ← U_add, show U 1#32 = 1 from rfl]
            omega
  · refine .else_ (fun m hm he => ?_) (fun p hp => ?_)
    · obtain ⟨z, h5, h6, _, _⟩ := mv_is (hms m hm he)
      rw [ht] at h5
      injection h5 with h5
      exact htb (h5 ▸ h6)
    · refine ⟨t, (best_some _ _ _ ht).1, htb, ?_⟩
      exact hu s _ _ htop hp
theorem moves_ok {k : Nat} {x : StoM} (hu : UnP (PgS x.bs)) (hok : ∀ p, PgS x.bs p → pgOk p = true) (hq : ∀ p, PgS x.bs p → U p.q < 2147483648) {m : PageM} (h : m ∈ mvAll k x b) : pgOk m = true ∧ ∃ p, PgS x.bs p ∧ p.s = m.s ∧ U m.q ≤ U p.q := by
  obtain ⟨s, _, h2⟩ := ms_mem h
  obtain ⟨t, h3, h4, h5, h6⟩ := mv_is h2
  have htop := top_pg (best_top h3)
  have hto := ok_q (hok _ htop.mem)
  cases hr : best (cnt (restOf x.bs)) (BitVec.ofNat 32 s) with
  | none =>
    rw [hr] at h5
    have e : U m.q = 1 := by rw [h5]; rfl
    refine ⟨?_, t.p, htop.mem, by rw [h5], by rw [e]; exact hto.1⟩
    rw [h5]
    exact ok_with (hok _ htop.mem) (by decide) (by decide)
  | some v =>
    rw [hr] at h5 h6
    obtain ⟨h7, h8, _⟩ := best_some _ _ _ hr
    obtain ⟨h9, h10⟩ := mem_rest.1 h7
    have h11 := htop.max v.p ⟨v, h9, rfl⟩ h8
    have hvq := hq v.p ⟨v, h9, rfl⟩
    have h0 := U_nonneg v.p.q
    have e : U m.q = U v.p.q + 1 := by
      rw [h5]
      show U (v.p.q + 1#32) = _
      rw [← U_add, show U 1#32 = 1 from rfl]
      omega
    refine ⟨?_, ?_⟩
    · rw [h5]
      refine ok_with (hok _ htop.mem) ?_ ?_
      · show 1 ≤ U (v.p.q + 1#32)
        rw [← U_add, show U 1#32 = 1 from rfl]
        omega
      · show U (v.p.q + 1#32) ≤ _
        rw [← U_add, show U 1#32 = 1 from rfl]
        omega
    · refine ⟨t.p, htop.mem, by rw [h5], ?_⟩
      rw [e]
      apply Classical.byContradiction
      intro hn
      have hv : TopP (PgS x.bs) (BitVec.ofNat 32 s) v.p := ⟨⟨v, h9, rfl⟩, h8, fun z hz he => by
        have := htop.max z hz he
        omega⟩
      exact h6 (.inl (hu _ _ _ htop hv))
end
end Go.Proofs.YtpkkejdjhnmjiaaGreat
namespace Go.Proofs.YtpkkejdjhnmjiaaGreat
open Go.RowKit Bm Go.Shelf
section
variable {x : StoM} {b i k : Nat} {bs : List BlkM}
theorem frs_mem {ks : List Int} {p : Nat} {z : Nat × Nat} : z ∈ frs b ks p ↔ z.1 = b ∧ z.2 < p ∧ nm ks z.2 = 0 := by
  unfold frs
  rw [List.mem_map]
  constructor
  · rintro ⟨j, hj, rfl⟩
    rw [List.mem_filter, List.mem_range, decide_eq_true_eq] at hj
    exact ⟨rfl, hj.1, hj.2⟩
  · rintro ⟨h1, h2, h3⟩
    refine ⟨z.2, ?_, by rw [← h1]⟩
    rw [List.mem_filter, List.mem_range, decide_eq_true_eq]
    exact ⟨h2, h3⟩
theorem frs_num (b : Nat) (ks : List Int) : ∀ p, (frs b ks p).length = nFree ks p
  | 0 => rfl
  | p + 1 => by
    rw [frs_succ, List.length_append, frs_num b ks p, nFree]
    split <;> rfl
theorem frs_nodup (b : Nat) (ks : List Int) (p : Nat) : (frs b ks p).Nodup := by
  unfold frs
  refine List.Pairwise.map _ (fun a c h e => h (by injection e)) (List.nodup_range.filter _)
theorem spots_is {wo : Int} {z : Nat × Nat} (h : z ∈ spotsM x wo) : z.1 < x.bs.length ∧ bo x.ret z.1 = false ∧ z.2 < 8 ∧ (z.1 : Int) ≠ wo ∧ (bkN x.bs z.1).head = 1 ∧ nm (bkN x.bs z.1).kinds z.2 = 0 := by
  have key : ∃ y ∈ usL x, skipB wo y = false ∧ z ∈ frs y.1 y.2.kinds 8 := by
    unfold spotsM at h
    rw [List.mem_append] at h
    rcases h with h | h
    · unfold begunOf at h
      obtain ⟨y, hy, hz⟩ := List.mem_flatMap.1 h
      split at hz
      · cases hz
      · next hn =>
        rw [Bool.or_eq_true, not_or, Bool.not_eq_true, Bool.not_eq_true] at hn
        exact ⟨y, hy, hn.1, hz⟩
    · unfold emptyOf at h
      obtain ⟨y, hy, hz⟩ := List.mem_flatMap.1 h
      split at hz
      · cases hz
      · next hn =>
        rw [Bool.or_eq_true, not_or, Bool.not_eq_true, Bool.not_eq_true] at hn
        exact ⟨y, hy, hn.1, hz⟩
  obtain ⟨y, hy, hs, hz⟩ := key
  unfold usL at hy
  obtain ⟨c, hc, rfl⟩ := List.mem_map.1 hy
  obtain ⟨h1, h2⟩ := mem_ordN.1 hc
  obtain ⟨h3, h4, h5⟩ := frs_mem.1 hz
  unfold skipB at hs
  rw [decide_eq_false_iff_not, not_or] at hs
  dsimp only at h3 h5 hs
  rw [h3]
  exact ⟨h1, h2, h4, hs.1, Classical.not_not.1 hs.2, h5⟩
theorem flat_nodup {f : Nat × BlkM → List (Nat × Nat)} (h1 : ∀ y, (f y).Nodup) (h2 : ∀ y, ∀ z ∈ f y, z.1 = y.1) : ∀ l : List (Nat × BlkM), (l.map (·.1)).Nodup → (l.flatMap f).Nodup
  | [], _ => List.nodup_nil
  | y :: l, h => by
    rw [List.map_cons, List.nodup_cons] at h
    rw [List.flatMap_cons, List.nodup_append]
    refine ⟨h1 y, flat_nodup h1 h2 l h.2, fun a ha c hc e => ?_⟩
    obtain ⟨u, hu, hcu⟩ := List.mem_flatMap.1 hc
    refine h.1 ?_
    rw [← h2 y a ha, e, h2 u c hcu]
    exact List.mem_map.2 ⟨u, hu, rfl⟩
theorem us_nodup (x : StoM) : ((usL x).map (·.1)).Nodup := by
  unfold usL
  rw [List.map_map]
  have : ((fun y : Nat × BlkM => y.1) ∘ fun b => (b, bkN x.bs b)) = id := rfl
  rw [this, List.map_id]
  exact ordN_nodup x
theorem spots_nodup (x : StoM) (wo : Int) : (spotsM x wo).Nodup := by
  have hb : ∀ (c : Bool) (y : Nat × BlkM), (if c then [] else frs y.1 y.2.kinds 8).Nodup := fun c y => by
    cases c
    · exact frs_nodup _ _ _
    · exact List.nodup_nil
  have hm : ∀ (c : Bool) (y : Nat × BlkM), ∀ z ∈ (if c then [] else frs y.1 y.2.kinds 8), z.1 = y.1 := fun c y z hz => by
    cases c
    · exact (frs_mem.1 hz).1
    · cases hz
  unfold spotsM
  rw [List.nodup_append]
  refine ⟨flat_nodup (fun y => hb _ y) (fun y => hm _ y) _ (us_nodup x), flat_nodup (fun y => hb _ y) (fun y => hm _ y) _ (us_nodup x), fun a ha c hc e => ?_⟩
  unfold begunOf at ha
  unfold emptyOf at hc
  obtain ⟨y, hy, hay⟩ := List.mem_flatMap.1 ha
  obtain ⟨u, hu, hcu⟩ := List.mem_flatMap.1 hc
  have e1 := hm _ y a hay
  have e2 := hm _ u c hcu
  unfold usL at hy hu
  obtain ⟨n, hn, rfl⟩ := List.mem_map.1 hy
  obtain ⟨m, hm', rfl⟩ := List.mem_map.1 hu
  have e3 : n = m := by rw [e] at e1; exact e1.symm.trans e2
  subst e3
  by_cases he : bkEmpty (bkN x.bs n) = true
  · rw [he, Bool.or_true] at hay
    cases hay
  · rw [Bool.not_eq_true] at he
    rw [he, Bool.not_false, Bool.or_true] at hcu
    cases hcu
def sumF (bs : List BlkM) (wo : Int) (l : List Nat) : Nat := (l.map fun b : Nat => if (b : Int) = wo then 0 else frIn (bkN bs b)).sum
theorem flat_sum {f g : Nat × BlkM → List (Nat × Nat)} {h : Nat × BlkM → Nat} (hfg : ∀ y, (f y).length + (g y).length = h y) : ∀ l : List (Nat × BlkM), (l.flatMap f).length + (l.flatMap g).length = (l.map h).sum
  | [] => rfl
  | y :: l => by
    have := flat_sum hfg l
    have := hfg y
    rw [List.flatMap_cons, List.flatMap_cons, List.length_append, List.length_append, List.map_cons, List.sum_cons]
    omega
theorem spots_num (x : StoM) (wo : Int) : (spotsM x wo).length = sumF x.bs wo (ordN x) := by
  unfold spotsM
  rw [List.length_append]
  unfold begunOf emptyOf
  rw [flat_sum (h := fun y => if (y.1 : Int) = wo then 0 else frIn y.2)]
  · unfold sumF usL
    rw [List.map_map]
    rfl
  · intro y
    by_cases h1 : (y.1 : Int) = wo
    · have : skipB wo y = true := by unfold skipB; rw [decide_eq_true_eq]; exact .inl h1
      rw [this, if_pos h1]
      rfl
    · rw [if_neg h1]
      unfold frIn
      by_cases h2 : y.2.head = 1
      · have : skipB wo y = false := by unfold skipB; rw [decide_eq_false_iff_not]; exact fun h => h.elim h1 (fun h => h h2)
        rw [this, if_pos h2, Bool.false_or, Bool.false_or]
        cases bkEmpty y.2
        · show (frs y.1 y.2.kinds 8).length + 0 = _
          rw [frs_num]
          rfl
        · show 0 + (frs y.1 y.2.kinds 8).length = _
          rw [frs_num, Nat.zero_add]
      · have : skipB wo y = true := by unfold skipB; rw [decide_eq_true_eq]; exact .inr h2
        rw [this, if_neg h2]
        rfl
theorem sumF_perm {wo : Int} {l m : List Nat} (h : l.Perm m) : sumF bs wo l = sumF bs wo m := by
  unfold sumF
  exact (h.map _).sum_nat
theorem sumF_range (bs : List BlkM) (n : Nat) : sumF bs (-1) (List.range n) = totF bs n := by
  induction n with
  | zero => rfl
  | succ n ih =>
    unfold sumF at ih ⊢
    rw [List.range_succ, List.map_append, List.sum_append, ih, totF, List.map_cons, List.map_nil, List.sum_cons, List.sum_nil, if_neg (by omega)]
    rfl
theorem sumF_out (bs : List BlkM) (b n : Nat) : sumF bs (b : Int) (List.range n) + (if b < n then frIn (bkN bs b) else 0) = totF bs n := by
  induction n with
  | zero => rw [if_neg (by omega)]; rfl
  | succ n ih =>
    unfold sumF at ih ⊢
    rw [List.range_succ, List.map_append, List.sum_append, totF, List.map_cons, List.map_nil, List.sum_cons, List.sum_nil]
    by_cases h : b = n
    · subst h
      rw [if_neg (show ¬ b < b by omega)] at ih
      rw [if_pos rfl, if_pos (show b < b + 1 by omega)]
      omega
    · rw [if_neg (show ¬ ((n : Int) = (b : Int)) by omega)]
      by_cases h2 : b < n
      · rw [if_pos h2] at ih
        rw [if_pos (show b < n + 1 by omega)]
        omega
      · rw [if_neg h2] at ih
        rw [if_neg (show ¬ b < n + 1 by omega)]
        omega
theorem ord_all (hr : ∀ b, bo x.ret b = false) : (ordN x).Perm (List.range x.bs.length) := by
  have h : flt x x.bs.length = List.range x.bs.length := by
    unfold flt
    rw [List.filter_eq_self]
    intro b _
    rw [hr b]
    rfl
  unfold ordN
  rw [h]
  exact sortN_perm _ _
theorem spots_all (hr : ∀ b, bo x.ret b = false) : (spotsM x (-1)).length = totF x.bs x.bs.length := by
  rw [spots_num, sumF_perm (ord_all hr), sumF_range]
theorem spots_out (hr : ∀ b, bo x.ret b = false) (hb : b < x.bs.length) : (spotsM x (b : Int)).length + frIn (bkN x.bs b) = totF x.bs x.bs.length := by
  have := sumF_out x.bs b x.bs.length
  rw [if_pos hb] at this
  rw [spots_num, sumF_perm (ord_all hr)]
  exact this
theorem free_from (ks : List Int) : ∀ n, freeFrom ks n = 0 ↔ ∀ i, i < n → nm ks i = 0
  | 0 => ⟨fun _ i h => by omega, fun _ => rfl⟩
  | n + 1 => by
    unfold freeFrom
    by_cases h : nm ks n = 0
    · rw [if_pos h, free_from ks n]
      exact ⟨fun e i hi => if hin : i = n then by rw [hin]; exact h else e i (by omega), fun e i hi => e i (by omega)⟩
    · rw [if_neg h]
      exact ⟨fun e => by omega, fun e => absurd (e n (by omega)) h⟩
theorem empty_iff (c : BlkM) : bkEmpty c = true ↔ c.head = 1 ∧ ∀ i, i < 8 → nm c.kinds i = 0 := by
  unfold bkEmpty bkNext
  rw [decide_eq_true_eq]
  by_cases h : c.head = 1
  · rw [if_pos h]
    constructor
    · intro e
      split at e
      · cases e
      · exact ⟨h, (free_from _ 8).1 (by omega)⟩
    · rintro ⟨_, e⟩
      rw [(free_from _ 8).2 e]
      rfl
  · rw [if_neg h]
    exact ⟨fun e => absurd e (by decide), fun e => absurd e.1 h⟩
theorem nFree_all {ks : List Int} : ∀ {n}, (∀ i, i < n → nm ks i = 0) → nFree ks n = n
  | 0, _ => rfl
  | n + 1, h => by
    rw [nFree, nFree_all (fun i hi => h i (by omega)), if_pos (h n (by omega))]
theorem nFree_full {ks : List Int} : ∀ {n}, nFree ks n = n → ∀ i, i < n → nm ks i = 0
  | 0, _, i, h => by omega
  | n + 1, h, i, hi => by
    rw [nFree] at h
    have h1 := nFree_le ks n
    by_cases h2 : nm ks n = 0
    · rw [if_pos h2] at h
      by_cases e : i = n
      · rw [e]; exact h2
      · exact nFree_full (n := n) (by omega) i (by omega)
    · rw [if_neg h2] at h
      omega
theorem empty_fr {c : BlkM} : bkEmpty c = true ↔ frIn c = 8 := by
  rw [empty_iff]
  unfold frIn
  by_cases h : c.head = 1
  · rw [if_pos h]
    exact ⟨fun e => nFree_all e.2, fun e => ⟨h, nFree_full e⟩⟩
  · rw [if_neg h]
    exact ⟨fun e => absurd e.1 h, fun e => absurd e (by decide)⟩
theorem nFree_set {ks : List Int} {i : Nat} (hi : i < ks.length) (h0 : nm ks i = 0) : ∀ n, nFree (ks.set i 1) n + (if i < n then 1 else 0) = nFree ks n
  | 0 => by rw [if_neg (by omega)]; rfl
  | n + 1 => by
    have ih := nFree_set hi h0 n
    have hn := nm_set ks i n 1 hi
    rw [nFree, nFree, hn]
    by_cases e : n = i
    · rw [if_pos e, if_neg (show ¬ ((1 : Int) = 0) by decide), if_pos (show i < n + 1 by omega), if_pos (show nm ks n = 0 by rw [e]; exact h0)]
      rw [if_neg (show ¬ i < n by omega)] at ih
      omega
    · rw [if_neg e]
      by_cases h : i < n
      · rw [if_pos h] at ih
        rw [if_pos (show i < n + 1 by omega)]
        omega
      · rw [if_neg h] at ih
        rw [if_neg (show ¬ i < n + 1 by omega)]
        omega
theorem frIn_put {c : BlkM} (hc : BlkOk c) (hh : c.head = 1) (hi : i < 8) (h0 : nm c.kinds i = 0) (pg : PageM) : frIn { c with kinds := c.kinds.set i 1, pages := c.pages.set i pg } + 1 = frIn c := by
  have := nFree_set (ks := c.kinds) (i := i) (by rw [hc.k]; exact hi) h0 8
  rw [if_pos hi] at this
  unfold frIn
  rw [if_pos hh, if_pos hh]
  exact this
theorem totF_set (hb : b < bs.length) (c : BlkM) : ∀ n, totF (bs.set b c) n + (if b < n then frIn (bkN bs b) else 0) = totF bs n + (if b < n then frIn c else 0)
  | 0 => rfl
  | n + 1 => by
    have ih := totF_set hb c n
    have hn : bkN (bs.set b c) n = if n = b then c else bkN bs n := bkN_set hb
    rw [totF, totF, hn]
    by_cases e : n = b
    · rw [if_pos e, if_pos (show b < n + 1 by omega), if_pos (show b < n + 1 by omega), e]
      rw [if_neg (show ¬ b < n by omega), if_neg (show ¬ b < n by omega), e] at ih
      omega
    · rw [if_neg e]
      by_cases h : b < n
      · rw [if_pos h, if_pos h] at ih
        rw [if_pos (show b < n + 1 by omega), if_pos (show b < n + 1 by omega)]
        omega
      · rw [if_neg h, if_neg h] at ih
        rw [if_neg (show ¬ b < n + 1 by omega), if_neg (show ¬ b < n + 1 by omega)]
        omega
theorem totF_put (hb : b < bs.length) (hc : BlkOk (bkN bs b)) (hh : (bkN bs b).head = 1) (hi : i < 8) (h0 : nm (bkN bs b).kinds i = 0) (pg : PageM) : totF (putB bs b i pg) bs.length + 1 = totF bs bs.length := by
  have h1 := totF_set hb { bkN bs b with kinds := (bkN bs b).kinds.set i 1, pages := (bkN bs b).pages.set i pg } bs.length
  rw [if_pos hb, if_pos hb, ← frIn_put hc hh hi h0 pg] at h1
  have h3 : totF (putB bs b i pg) bs.length = totF (bs.set b { bkN bs b with kinds := (bkN bs b).kinds.set i 1, pages := (bkN bs b).pages.set i pg }) bs.length := rfl
  rw [h3]
  generalize frIn { bkN bs b with kinds := (bkN bs b).kinds.set i 1, pages := (bkN bs b).pages.set i pg } = F at h1
  omega
theorem frIn_G (c : BitVec 32) : frIn (blkG c) = 8 := rfl
end
end Go.Proofs.YtpkkejdjhnmjiaaGreat
namespace Go.Proofs.YtpkkejdjhnmjiaaGreat
open Go.RowKit Bm Go.Shelf
section
variable {k b : Nat} {d d' : DrvM} {x x' : StoM}
theorem room_after {n m : Nat} (h : d'.f.chip.left = burn n d.f.chip) (hr : Room (n + m) d.f.chip) : Room m d'.f.chip := (burn_two h hr).2
theorem burn_after {n m : Nat} (h : d'.f.chip.left = burn n d.f.chip) (hr : Room (n + m) d.f.chip) : burn m d'.f.chip = burn (n + m) d.f.chip := (burn_two h hr).1
theorem sys_len (h : Sys k d x) : x.bs.length = k := by rw [h.view, view_len]
theorem sys_ok (h : Sys k d x) : ∀ c ∈ x.bs, BlkOk c := by
  rw [h.view]
  intro c hc
  obtain ⟨i, _, rfl⟩ := List.mem_map.1 hc
  exact bkOf_ok _
theorem sys_okN (h : Sys k d x) (hb : b < k) : BlkOk (bkN x.bs b) := sys_ok h _ (List.mem_of_getElem? (bkN_get (by rw [sys_len h]; exact hb)))
theorem rd_ok {xs : List (BitVec 32)} (h : (pgRd xs).2 = 1) : pgOk (pgRd xs).1 = true := by
  unfold pgRd at h ⊢
  by_cases hl : xs.length = 7
  · rw [if_pos hl] at h ⊢
    by_cases hf : freeB xs = true
    · rw [if_pos hf] at h
      exact absurd h (by decide)
    · rw [if_neg hf] at h ⊢
      by_cases he : pgWs (pgOf xs) = xs
      · rw [if_pos he]
        cases hp : pgOk (pgOf xs)
        · rw [pgWs_no hp] at he
          rw [← he] at hl
          exact absurd hl (by decide)
        · rfl
      · rw [if_neg he] at h
        exact absurd h (by decide)
  · rw [if_neg hl] at h
    exact absurd h (by decide)
theorem sys_right (h : Sys k d x) {p : PageM} (hp : PgS x.bs p) : pgOk p = true := by
  obtain ⟨y, hy, rfl⟩ := hp
  obtain ⟨c, i, hc, hi, h1, rfl⟩ := mem_cnt.1 hy
  have hck : c < k := by rw [← sys_len h]; exact hc
  show pgOk (pgN (bkN x.bs c).pages i) = true
  rw [h.view, view_N hck] at h1 ⊢
  rw [vk_kind _ _ hi] at h1
  rw [vk_page _ _ hi]
  split at h1
  · next hh =>
    rw [if_pos hh]
    exact rd_ok h1
  · cases h1
structure Frees (x : StoM) (l : List (Nat × Nat)) : Prop where
  nodup : l.Nodup
  free : ∀ z ∈ l, z.1 < x.bs.length ∧ z.2 < 8 ∧ (bkN x.bs z.1).head = 1 ∧ nm (bkN x.bs z.1).kinds z.2 = 0
structure Puts8 (x x' : StoM) (l : List ((Nat × Nat) × PageM)) : Prop where
  len : x'.bs.length = x.bs.length
  ret : x'.ret = x.ret
  off : x'.off = x.off
  head : ∀ c, (bkN x'.bs c).head = (bkN x.bs c).head
  count : ∀ c, (bkN x'.bs c).count = (bkN x.bs c).count
  mem : ∀ y, y ∈ cnt x'.bs ↔ y ∈ cnt x.bs ∨ ∃ z ∈ l, y = ⟨z.1.1, z.1.2, z.2⟩
  same : ∀ c, (∀ z ∈ l, z.1.1 ≠ c) → bkN x'.bs c = bkN x.bs c
  total : totF x'.bs x.bs.length + l.length = totF x.bs x.bs.length
theorem Puts8.refl (x : StoM) : Puts8 x x [] := ⟨rfl, rfl, rfl, fun _ => rfl, fun _ => rfl, fun y => ⟨.inl, fun h => h.elim id fun ⟨_, h, _⟩ => by cases h⟩, fun _ _ => rfl, rfl⟩
theorem Sys.puts (l : List ((Nat × Nat) × PageM)) : ∀ {d : DrvM} {x : StoM}, Sys k d x → Room (7 * l.length) d.f.chip → Frees x (l.map (·.1)) → (∀ z ∈ l, pgOk z.2 = true) →
    ∃ d' x', mPuts d x l = (d', x', 0) ∧ Sys k d' x' ∧ Spent (7 * l.length) d d' ∧ Puts8 x x' l := by
  induction l with
  | nil =>
    intro d x h hr _ _
    refine ⟨d, x, mPuts_nil d x, h, ⟨?_, rfl, rfl, rfl⟩, Puts8.refl x⟩
    show d.f.chip.left = burn 0 d.f.chip
    unfold burn
    rcases hr with hr | hr
    · rw [if_pos hr, hr]
    · rw [if_neg (by simp at hr; omega)]
      omega
  | cons z l ih =>
    intro d x h hr hf hp
    rw [List.length_cons, show 7 * (l.length + 1) = 7 + 7 * l.length by omega] at hr
    obtain ⟨h1, h2, h3, h4⟩ := hf.free z.1 (List.mem_cons_self)
    have hzk : z.1.1 < k := by rw [← sys_len h]; exact h1
    obtain ⟨d1, e1, s1, sp1⟩ := h.put (hr.less (by omega)) hzk h2 h3 h4 (hp z List.mem_cons_self)
    obtain ⟨x1, hx1⟩ : ∃ x1 : StoM, x1 = { x with bs := putB x.bs z.1.1 z.1.2 z.2 } := ⟨_, rfl⟩
    rw [← hx1] at e1 s1
    have hb1 : x1.bs = putB x.bs z.1.1 z.1.2 z.2 := by rw [hx1]
    have hok := sys_okN h hzk
    have hnd := hf.nodup
    rw [List.map_cons, List.nodup_cons] at hnd
    have hf1 : Frees x1 (l.map (·.1)) := ⟨hnd.2, fun w hw => by
      obtain ⟨g1, g2, g3, g4⟩ := hf.free w (List.mem_cons_of_mem _ hw)
      rw [hb1, putB_len, putB_head h1, putB_kind h1 hok h2]
      refine ⟨g1, g2, g3, ?_⟩
      rw [if_neg]
      · exact g4
      · rintro ⟨e1, e2⟩
        refine hnd.1 ?_
        have : w = z.1 := Prod.ext e1 e2
        rw [← this]
        exact hw⟩
    obtain ⟨d2, x2, e2, s2, sp2, pu⟩ := ih s1 (room_after sp1.left hr) hf1 (fun w hw => hp w (List.mem_cons_of_mem _ hw))
    have l1 : x1.bs.length = x.bs.length := by rw [hb1, putB_len]
    refine ⟨d2, x2, ?_, s2, ⟨?_, sp2.wear.trans sp1.wear, sp2.endure.trans sp1.endure, sp2.pick.trans sp1.pick⟩, ?_⟩
    · rw [mPuts_go (by rw [e1]), e1]
      exact e2
    · rw [sp2.left, burn_after sp1.left hr, List.length_cons, show 7 * (l.length + 1) = 7 + 7 * l.length by omega]
    · refine ⟨pu.len.trans l1, pu.ret.trans (by rw [hx1]), pu.off.trans (by rw [hx1]), fun c => ?_, fun c => ?_, fun y => ?_, fun c hc => ?_, ?_⟩
      · rw [pu.head, hb1, putB_head h1]
      · rw [pu.count, hb1, putB_N h1]
        split
        · next e => rw [e]
        · rfl
      · rw [pu.mem, hb1, mem_putB h1 hok h2 h4]
        constructor
        · rintro ((e | e) | ⟨w, hw, e⟩)
          · exact .inr ⟨z, List.mem_cons_self, e⟩
          · exact .inl e
          · exact .inr ⟨w, List.mem_cons_of_mem _ hw, e⟩
        · rintro (e | ⟨w, hw, e⟩)
          · exact .inl (.inr e)
          · rcases List.mem_cons.1 hw with rfl | hw
            · exact .inl (.inl e)
            · exact .inr ⟨w, hw, e⟩
      · rw [pu.same c (fun w hw => hc w (List.mem_cons_of_mem _ hw)), hb1, putB_N h1, if_neg (fun e => hc z List.mem_cons_self e.symm)]
      · have h5 := totF_put h1 hok h3 h2 h4 z.2
        have h6 := pu.total
        rw [l1, hb1] at h6
        rw [List.length_cons]
        omega
end
end Go.Proofs.YtpkkejdjhnmjiaaGreat
namespace Go.Proofs.YtpkkejdjhnmjiaaGreat
open Go.RowKit Bm Go.Shelf
structure Fit (C : Prop) (k : Nat) (Q W : Int) (d : DrvM) (x : StoM) : Prop where
  sys : Sys k d x
  head : ∀ b, b < k → (bkN x.bs b).head = 1
  ret : ∀ b, bo x.ret b = false
  off : x.off = false
  un : UnP (PgS x.bs)
  sec : ∀ p, PgS x.bs p → U p.s < (((k - 3) * 6 : Nat) : Int)
  seq : ∀ p, PgS x.bs p → U p.q ≤ Q
  emp : ∃ b, b < k ∧ bkEmpty (bkN x.bs b) = true
  wear : ∀ b, nm d.f.chip.wear b ≤ W
  cw : C → ∀ b, b < k → U (bkN x.bs b).count = nm d.f.chip.wear b
  en : d.f.chip.endure ≤ 2147483648
section
variable {C : Prop} {k b : Nat} {Q W : Int} {d d' : DrvM} {x x' : StoM}
theorem Fit.len (h : Fit C k Q W d x) : x.bs.length = k := sys_len h.sys
theorem Fit.right (h : Fit C k Q W d x) {p : PageM} (hp : PgS x.bs p) : pgOk p = true := sys_right h.sys hp
theorem Fit.k2 (h : Fit C k Q W d x) : k ≤ 64 := h.sys.live.ok.ok.chip.k2
theorem fits_len (h : Fit C k Q W d x) (hb : b < k) {ms : List PageM} (hf : fitsM x b ms = true) : ms.length ≤ (spotsM x (b : Int)).length := by
  have hl := h.len
  have h1 := spots_out h.ret (b := b) (by rw [hl]; exact hb)
  unfold fitsM at hf
  rw [Bool.and_eq_true, decide_eq_true_eq] at hf
  have h2 := hf.1
  omega
theorem set_get (l : List Int) (b c : Nat) (v : Int) (hv : ∀ w, nm l w ≤ W) (hv2 : v ≤ W + 1) : nm (l.set b v) c ≤ W + 1 := by
  by_cases hb : b < l.length
  · rw [nm_set _ _ _ _ hb]
    split
    · exact hv2
    · have := hv c
      omega
  · rw [List.set_eq_of_length_le (by omega)]
    have := hv c
    omega
theorem zip_fst {α β : Type} : ∀ (l : List α) (m : List β), m.length ≤ l.length → (l.zip m).map (·.1) = l.take m.length
  | l, [], _ => by rw [List.zip_nil_right]; rfl
  | [], _ :: _, h => by rw [List.length_cons, List.length_nil] at h; omega
  | a :: l, c :: m, h => by
    rw [List.zip_cons_cons, List.map_cons, List.length_cons, List.take_succ_cons, zip_fst l m (by rw [List.length_cons, List.length_cons] at h; omega)]
theorem zip_snd {α β : Type} : ∀ (l : List α) (m : List β), m.length ≤ l.length → (l.zip m).map (·.2) = m
  | l, [], _ => by rw [List.zip_nil_right]; rfl
  | [], _ :: _, h => by rw [List.length_cons, List.length_nil] at h; omega
  | a :: l, c :: m, h => by
    rw [List.zip_cons_cons, List.map_cons, zip_snd l m (by rw [List.length_cons, List.length_cons] at h; omega)]
theorem Fit.reclaim (h : Fit C k Q W d x) (hQ : Q < 2147483648) (hW : W < d.f.chip.endure) (hb : b < k) (hf : fitsM x b (mvAll k x b) = true) (hr : Room (7 * (mvAll k x b).length + 6) d.f.chip) :
    ∃ d' x', mReclaim d x b (mvAll k x b) = (d', x', 0) ∧ Fit C k Q (W + 1) d' x' ∧ (∀ s, Val x'.bs s = Val x.bs s) ∧ d'.f.chip.endure = d.f.chip.endure ∧ d'.f.chip.pick = d.f.chip.pick ∧ d'.f.chip.left = burn (7 * (mvAll k x b).length + 6) d.f.chip ∧
      totF x'.bs k + (mvAll k x b).length + frIn (bkN x.bs b) = totF x.bs k + 8 := by
  have hl := h.len
  have hlen := fits_len h hb hf
  have hq : ∀ p, PgS x.bs p → U p.q < 2147483648 := fun p hp => by have := h.seq p hp; omega
  have hokm : ∀ m ∈ mvAll k x b, pgOk m = true ∧ ∃ p, PgS x.bs p ∧ p.s = m.s ∧ U m.q ≤ U p.q := fun m hm => moves_ok h.un (fun p hp => h.right hp) hq hm
  have hkeep := fun s hex => moves_keep (b := b) (k := k) (x := x) h.k2 h.un (fun p hp => h.right hp) h.sec hq s hex
  obtain ⟨ms, hms⟩ : ∃ ms, ms = mvAll k x b := ⟨_, rfl⟩
  rw [← hms] at hlen hokm hr ⊢
  simp only [← hms] at hkeep
  obtain ⟨l, hL⟩ : ∃ l, l = (spotsM x (b : Int)).zip ms := ⟨_, rfl⟩
  have hll : l.length = ms.length := by rw [hL, List.length_zip]; omega
  have hl1 : l.map (·.1) = (spotsM x (b : Int)).take ms.length := by rw [hL]; exact zip_fst _ _ hlen
  have hl2 : l.map (·.2) = ms := by rw [hL]; exact zip_snd _ _ hlen
  have hsp : ∀ z ∈ l, z.1 ∈ spotsM x (b : Int) := fun z hz => by
    have : z.1 ∈ l.map (·.1) := List.mem_map.2 ⟨z, hz, rfl⟩
    rw [hl1] at this
    exact List.mem_of_mem_take this
  have hms2 : ∀ z ∈ l, z.2 ∈ ms := fun z hz => by
    have : z.2 ∈ l.map (·.2) := List.mem_map.2 ⟨z, hz, rfl⟩
    rwa [hl2] at this
  have hmex : ∀ m ∈ ms, ∃ z ∈ l, z.2 = m := fun m hm => by
    rw [← hl2] at hm
    exact List.mem_map.1 hm
  have hne : ∀ z ∈ l, z.1.1 ≠ b := fun z hz e => by
    have := (spots_is (hsp z hz)).2.2.2.1
    rw [e] at this
    exact this rfl
  have hfr : Frees x (l.map (·.1)) := ⟨by rw [hl1]; exact (spots_nodup x _).sublist (List.take_sublist _ _), fun z hz => by
    rw [hl1] at hz
    obtain ⟨g1, _, g3, _, g5, g6⟩ := spots_is (List.mem_of_mem_take hz)
    exact ⟨g1, g3, g5, g6⟩⟩
  obtain ⟨d1, x1, e1, s1, sp1, pu⟩ := Sys.puts l h.sys (by rw [hll]; exact hr.less (by omega)) hfr (fun z hz => (hokm _ (hms2 z hz)).1)
  have hw1 : d1.f.chip.wear = d.f.chip.wear := sp1.wear
  have hr1 : Room 6 d1.f.chip := room_after sp1.left (by rw [hll]; exact hr)
  obtain ⟨d2, e2, s2, wo⟩ := s1.remake hr1 hb (by rw [hw1, sp1.endure]; have := h.wear b; omega)
  obtain ⟨x2, hx2⟩ : ∃ x2 : StoM, x2 = { x1 with bs := x1.bs.set b (blkG (ncM x1.bs b)) } := ⟨_, rfl⟩
  rw [← hx2] at e2 s2
  have hb2 : x2.bs = x1.bs.set b (blkG (ncM x1.bs b)) := by rw [hx2]
  have hl1b : b < x1.bs.length := by rw [pu.len, hl]; exact hb
  have hN : ∀ c, bkN x2.bs c = if c = b then blkG (ncM x1.bs b) else bkN x1.bs c := fun c => by rw [hb2]; exact bkN_set hl1b
  have hmem : ∀ y, y ∈ cnt x2.bs ↔ (y ∈ cnt x.bs ∨ ∃ z ∈ l, y = ⟨z.1.1, z.1.2, z.2⟩) ∧ y.b ≠ (b : Int) := fun y => by rw [hb2, mem_setG hl1b, pu.mem]
  have hpg : ∀ p, PgS x2.bs p ↔ OutS x.bs b p ∨ p ∈ ms := fun p => by
    constructor
    · rintro ⟨y, hy, rfl⟩
      obtain ⟨h1 | ⟨z, hz, e⟩, h2⟩ := (hmem y).1 hy
      · exact .inl ⟨y, h1, h2, rfl⟩
      · rw [e]
        exact .inr (hms2 z hz)
    · rintro (⟨y, h1, h2, rfl⟩ | hp)
      · exact ⟨y, (hmem y).2 ⟨.inl h1, h2⟩, rfl⟩
      · obtain ⟨z, hz, rfl⟩ := hmex p hp
        exact ⟨⟨z.1.1, z.1.2, z.2⟩, (hmem _).2 ⟨.inr ⟨z, hz, rfl⟩, by
          show (z.1.1 : Int) ≠ (b : Int)
          have := hne z hz
          omega⟩, rfl⟩
  have hmx : ∀ m ∈ ms, ∃ z, PgS x.bs z ∧ z.s = m.s := fun m hm => by
    obtain ⟨p, h1, h2, _⟩ := (hokm m hm).2
    exact ⟨p, h1, h2⟩
  have htop : ∀ s, (∃ z, PgS x.bs z ∧ z.s = s) → ∃ p, TopP (PgS x.bs) s p := fun s ⟨z, hz, he⟩ => (top_or h.un s).elim id fun hn => absurd he (hn z hz)
  have hun : UnP (PgS x2.bs) := un_kept h.un (fun z hz => out_in hz) hpg hkeep hmx htop
  refine ⟨d2, x2, ?_, ⟨s2, fun c hc => ?_, fun c => ?_, ?_, hun, fun p hp => ?_, fun p hp => ?_, ⟨b, hb, ?_⟩, fun c => ?_, fun hC c hc => ?_, ?_⟩, fun s => ?_, ?_, ?_, ?_, ?_⟩
  · unfold mReclaim
    rw [← hL, e1]
    dsimp only
    rw [if_neg (by decide)]
    unfold mRenew
    rw [e2]
    rfl
  · rw [hN]
    split
    · rfl
    · rw [pu.head]
      exact h.head c hc
  · rw [show x2.ret = x1.ret by rw [hx2], pu.ret]
    exact h.ret c
  · rw [show x2.off = x1.off by rw [hx2], pu.off]
    exact h.off
  · rcases (hpg p).1 hp with h1 | h1
    · exact h.sec p (out_in h1)
    · obtain ⟨r, g1, g2, _⟩ := (hokm p h1).2
      rw [← g2]
      exact h.sec r g1
  · rcases (hpg p).1 hp with h1 | h1
    · exact h.seq p (out_in h1)
    · obtain ⟨r, g1, _, g3⟩ := (hokm p h1).2
      exact Int.le_trans g3 (h.seq r g1)
  · rw [hN, if_pos rfl, empty_fr]
    rfl
  · rw [wo.wear, hw1]
    exact set_get _ _ _ _ h.wear (by have := h.wear b; omega)
  · have hwl : d.f.chip.wear.length = k := h.sys.live.ok.ok.chip.wears
    rw [hN, wo.wear, hw1, nm_set _ _ _ _ (by rw [hwl]; exact hb)]
    by_cases e : c = b
    · rw [if_pos e, if_pos e]
      show U (ncM x1.bs b) = _
      have h1 := h.cw hC b hb
      have h2 := h.wear b
      have h3 := h.en
      have h0 := U_nonneg (bkN x.bs b).count
      have hcn : (bkN x1.bs b).count = (bkN x.bs b).count := pu.count b
      have hhd : (bkN x1.bs b).head = 1 := by rw [pu.head]; exact h.head b hb
      have hU : U ((bkN x.bs b).count + 1#32) = U (bkN x.bs b).count + 1 := by
        rw [← U_add, show U 1#32 = 1 from rfl]
        omega
      unfold ncM
      rw [if_pos hhd, hcn, if_pos (by omega), hU, h1]
    · rw [if_neg e, if_neg e, pu.count]
      exact h.cw hC c hc
  · rw [wo.endure, sp1.endure]
    exact h.en
  · exact val_kept h.un hun (fun z hz => out_in hz) hpg hmx (fun p hp hg => ok_gone (h.right hp) hg) s (hkeep s)
  · rw [wo.endure, sp1.endure]
  · rw [wo.pick, sp1.pick]
  · rw [wo.left, burn_after sp1.left (by rw [hll]; exact hr), hll]
  · have h1 := totF_set hl1b (blkG (ncM x1.bs b)) k
    rw [if_pos hb, if_pos hb, frIn_G] at h1
    have h2 := pu.total
    rw [hl, hll] at h2
    have h3 := pu.same b (fun z hz e => hne z hz e)
    rw [h3] at h1
    rw [hb2]
    omega
end
end Go.Proofs.YtpkkejdjhnmjiaaGreat
namespace Go.Proofs.YtpkkejdjhnmjiaaGreat
open Go.RowKit Bm Go.Shelf
section
variable {C : Prop} {k b : Nat} {Q W : Int} {d d' : DrvM} {x x' : StoM}
theorem ch_true {f : Nat → List PageM} : ∀ (l : List (Nat × BlkM)) (st : Nat × Bool), st.2 = true → (l.foldl (chStep x f) st).2 = true
  | [], _, h => h
  | y :: l, st, h => by
    rw [List.foldl_cons]
    refine ch_true l _ ?_
    unfold chStep
    split
    · rfl
    · exact h
theorem ch_found {f : Nat → List PageM} {y : Nat × BlkM} (h1 : 0 < 8 - (frIn y.2 : Int) - ((f y.1).length : Int)) (h2 : fitsM x y.1 (f y.1) = true) : ∀ (l : List (Nat × BlkM)) (st : Nat × Bool), y ∈ l → (l.foldl (chStep x f) st).2 = true
  | [], _, h => by cases h
  | z :: l, st, h => by
    rw [List.foldl_cons]
    rcases List.mem_cons.1 h with e | h
    · subst e
      refine ch_true l _ ?_
      unfold chStep
      by_cases hs : st.2 = false
      · rw [if_pos ⟨h1, h2, .inl hs⟩]
      · split
        · rfl
        · rwa [Bool.not_eq_false] at hs
    · exact ch_found h1 h2 l _ h
theorem ch_is {f : Nat → List PageM} : ∀ (l : List (Nat × BlkM)) (st : Nat × Bool), (st.2 = true → ∃ y, y.1 = st.1 ∧ y ∈ usL x ∧ 0 < 8 - (frIn y.2 : Int) - ((f y.1).length : Int) ∧ fitsM x y.1 (f y.1) = true) → (∀ y ∈ l, y ∈ usL x) →
    (l.foldl (chStep x f) st).2 = true → ∃ y, y.1 = (l.foldl (chStep x f) st).1 ∧ y ∈ usL x ∧ 0 < 8 - (frIn y.2 : Int) - ((f y.1).length : Int) ∧ fitsM x y.1 (f y.1) = true
  | [], _, h, _ => h
  | z :: l, st, h, hl => by
    rw [List.foldl_cons]
    refine ch_is l _ (fun e => ?_) (fun y hy => hl y (List.mem_cons_of_mem _ hy))
    unfold chStep at e ⊢
    split
    · next hc => exact ⟨z, rfl, hl z List.mem_cons_self, hc.1, hc.2.1⟩
    · next hc =>
      rw [if_neg hc] at e
      exact h e
theorem us_mem {y : Nat × BlkM} : y ∈ usL x ↔ y.1 < x.bs.length ∧ bo x.ret y.1 = false ∧ y.2 = bkN x.bs y.1 := by
  unfold usL
  rw [List.mem_map]
  constructor
  · rintro ⟨c, hc, rfl⟩
    obtain ⟨h1, h2⟩ := mem_ordN.1 hc
    exact ⟨h1, h2, rfl⟩
  · rintro ⟨h1, h2, h3⟩
    exact ⟨y.1, mem_ordN.2 ⟨h1, h2⟩, by rw [← h3]⟩
theorem cheap_is {f : Nat → List PageM} (h : (cheapM x f).2 = true) : (cheapM x f).1 < x.bs.length ∧ 0 < 8 - (frIn (bkN x.bs (cheapM x f).1) : Int) - ((f (cheapM x f).1).length : Int) ∧ fitsM x (cheapM x f).1 (f (cheapM x f).1) = true := by
  obtain ⟨y, h1, h2, h3, h4⟩ := ch_is (f := f) (usL x) (0, false) (fun e => by cases e) (fun y hy => hy) h
  obtain ⟨h5, _, h6⟩ := us_mem.1 h2
  have e : y.1 = (cheapM x f).1 := h1
  rw [h6] at h3
  rw [e] at h3 h4 h5
  exact ⟨h5, h3, h4⟩
theorem cheap_found {f : Nat → List PageM} {c : Nat} (hc : c < x.bs.length) (hr : bo x.ret c = false) (h1 : 0 < 8 - (frIn (bkN x.bs c) : Int) - ((f c).length : Int)) (h2 : fitsM x c (f c) = true) : (cheapM x f).2 = true :=
  ch_found (y := (c, bkN x.bs c)) h1 h2 (usL x) (0, false) (us_mem.2 ⟨hc, hr, rfl⟩)
theorem mv_step (G : BitVec 32 → Option (PlM × PlM)) (S c : Nat) : (mvOf G (S + 1) c).length = (mvOf G S c).length + if (mvP G S).map (·.1) = some c then 1 else 0 := by
  rw [mvOf_succ, List.length_append]
  cases hz : mvP G S with
  | none =>
    rw [if_neg (by simp)]
    rfl
  | some z =>
    by_cases h : z.1 = c
    · have e : mvIn c (some z) = some z.2 := if_pos h
      rw [e, if_pos (by rw [Option.map_some, h])]
      rfl
    · have e : mvIn c (some z) = none := if_neg h
      rw [e, if_neg (by rw [Option.map_some]; exact fun e => h (Option.some.inj e))]
      rfl
theorem moves_sum (G : BitVec 32 → Option (PlM × PlM)) (l : List Nat) (hl : l.Nodup) : ∀ S, (l.map fun c => (mvOf G S c).length).sum ≤ S
  | 0 => by
    have : (l.map fun c => (mvOf G 0 c).length) = l.map fun _ => 0 := List.map_congr_left fun c _ => rfl
    rw [this]
    clear this hl
    induction l with
    | nil => exact Nat.le_refl _
    | cons a l ih => rw [List.map_cons, List.sum_cons]; omega
  | S + 1 => by
    have ih := moves_sum G l hl S
    have key : ∀ l : List Nat, l.Nodup → (l.map fun c => (mvOf G (S + 1) c).length).sum ≤ (l.map fun c => (mvOf G S c).length).sum + 1 := by
      intro l
      induction l with
      | nil => intro _; exact Nat.zero_le _
      | cons a l ih2 =>
        intro hn
        rw [List.nodup_cons] at hn
        have hs := ih2 hn.2
        rw [List.map_cons, List.sum_cons, List.map_cons, List.sum_cons, mv_step]
        by_cases hza : (mvP G S).map (·.1) = some a
        · have hsame : (l.map fun c => (mvOf G (S + 1) c).length) = l.map fun c => (mvOf G S c).length := List.map_congr_left fun c hc => by
            rw [mv_step, if_neg]
            · rfl
            · intro e
              rw [hza] at e
              exact hn.1 (by rw [Option.some.inj e]; exact hc)
          rw [if_pos hza, hsame]
          omega
        · rw [if_neg hza]
          omega
    have := key l hl
    omega
theorem sum_ge {f : Nat → Nat} {n : Nat} : ∀ l : List Nat, (∀ c ∈ l, n ≤ f c) → n * l.length ≤ (l.map f).sum
  | [], _ => Nat.le_refl _
  | a :: l, h => by
    have h1 := sum_ge l fun c hc => h c (List.mem_cons_of_mem _ hc)
    have h2 := h a List.mem_cons_self
    rw [List.map_cons, List.sum_cons, List.length_cons, Nat.mul_add]
    omega
theorem Fit.cheap (h : Fit C k Q W d x) (hQ : Q < 2147483648) (k5 : 5 ≤ k) {b0 : Nat} (hb0 : b0 < k) (hfull : ∀ c, c < k → c ≠ b0 → frIn (bkN x.bs c) = 0) (htot : 8 ≤ totF x.bs k) : (cheapM x (mvOf (allG x.bs) ((k - 3) * 6))).2 = true := by
  have hl := h.len
  have hq : ∀ p, PgS x.bs p → U p.q < 2147483648 := fun p hp => by have := h.seq p hp; omega
  have hsum := moves_sum (allG x.bs) ((List.range k).filter fun c => decide (c ≠ b0)) (List.nodup_range.filter _) ((k - 3) * 6)
  have hnum : ((List.range k).filter fun c => decide (c ≠ b0)).length + 1 ≥ k := by
    have h1 : ∀ n, ((List.range n).filter fun c => decide (c ≠ b0)).length + 1 ≥ n := by
      intro n
      have h2 : ∀ n, ((List.range n).filter fun c => decide (c ≠ b0)).length + (if b0 < n then 1 else 0) = n := by
        intro n
        induction n with
        | zero => rfl
        | succ n ih =>
          rw [List.range_succ, List.filter_append, List.length_append]
          by_cases e : n = b0
          · subst e
            rw [if_neg (Nat.lt_irrefl _)] at ih
            rw [if_pos (Nat.lt_succ_self _)]
            have : ([n].filter fun c => decide (c ≠ n)) = [] := by simp
            rw [this, List.length_nil]
            omega
          · have : ([n].filter fun c => decide (c ≠ b0)) = [n] := by simp [e]
            rw [this]
            by_cases h3 : b0 < n
            · rw [if_pos h3] at ih
              rw [if_pos (show b0 < n + 1 by omega), List.length_cons, List.length_nil]
              omega
            · rw [if_neg h3] at ih
              rw [if_neg (show ¬ b0 < n + 1 by omega), List.length_cons, List.length_nil]
              omega
      have := h2 n
      split at this <;> omega
    exact h1 k
  have hex : ∃ c, c < k ∧ c ≠ b0 ∧ (mvOf (allG x.bs) ((k - 3) * 6) c).length < 8 := by
    apply Classical.byContradiction
    intro hno
    have h8 : ∀ c ∈ (List.range k).filter fun c => decide (c ≠ b0), 8 ≤ (mvOf (allG x.bs) ((k - 3) * 6) c).length := fun c hc => by
      rw [List.mem_filter, List.mem_range, decide_eq_true_eq] at hc
      apply Classical.byContradiction
      intro hlt
      exact hno ⟨c, hc.1, hc.2, by omega⟩
    have := sum_ge (f := fun c => (mvOf (allG x.bs) ((k - 3) * 6) c).length) _ h8
    omega
  obtain ⟨c, hc, hcb, hlen⟩ := hex
  have hfr := hfull c hc hcb
  refine cheap_found (by rw [hl]; exact hc) (h.ret c) (by rw [hfr]; omega) ?_
  unfold fitsM
  rw [Bool.and_eq_true, decide_eq_true_eq, hfr, hl]
  refine ⟨by omega, ?_⟩
  rw [List.all_eq_true]
  exact fun m hm => (moves_ok (b := c) (k := k) h.un (fun p hp => h.right hp) hq hm).1
end
end Go.Proofs.YtpkkejdjhnmjiaaGreat
namespace Go.Proofs.YtpkkejdjhnmjiaaGreat
open Go.RowKit Bm Go.Shelf
section
variable {C : Prop} {k b : Nat} {Q W : Int} {d d' : DrvM} {x x' : StoM}
theorem totF_ge (bs : List BlkM) (b : Nat) : ∀ n, b < n → frIn (bkN bs b) ≤ totF bs n
  | 0, h => by omega
  | n + 1, h => by
    rw [totF]
    by_cases e : b = n
    · rw [e]; omega
    · have := totF_ge bs b n (by omega)
      omega
theorem Fit.tot (h : Fit C k Q W d x) : 8 ≤ totF x.bs k := by
  obtain ⟨b0, h1, h2⟩ := h.emp
  rw [empty_fr] at h2
  have := totF_ge x.bs b0 k h1
  omega
theorem nTrue_none {l : List Bool} (h : ∀ b, bo l b = false) : ∀ n, nTrue l n = 0
  | 0 => rfl
  | n + 1 => by rw [nTrue, nTrue_none h n, h n]; rfl
theorem Fit.other (h : Fit C k Q W d x) (hQ : Q < 2147483648) (k5 : 5 ≤ k) {z : Nat × Nat} {L : List (Nat × Nat)} (hz : spotsM x (-1) = z :: L) (hno : ¬ (roomyM x = false ∧ (cheapM x (mvOf (allG x.bs) ((k - 3) * 6))).2 = true)) : ∃ c, c < k ∧ c ≠ z.1 ∧ bkEmpty (bkN x.bs c) = true := by
  have hl := h.len
  by_cases hr : roomyM x = true
  · unfold roomyM at hr
    rw [hz] at hr
    unfold roomyL spareM at hr
    rw [decide_eq_true_eq, nTrue_none h.ret, if_pos (by decide)] at hr
    have hne : ((usL x).filter fun y => decide (y.1 ≠ z.1) && bkEmpty y.2) ≠ [] := fun e => by
      unfold cntE at hr
      rw [e, List.length_nil] at hr
      omega
    obtain ⟨y, hy⟩ := List.exists_mem_of_ne_nil _ hne
    rw [List.mem_filter, Bool.and_eq_true, decide_eq_true_eq] at hy
    obtain ⟨h1, _, h3⟩ := us_mem.1 hy.1
    exact ⟨y.1, by rw [← hl]; exact h1, hy.2.1, by rw [← h3]; exact hy.2.2⟩
  · rw [Bool.not_eq_true] at hr
    apply Classical.byContradiction
    intro hcon
    have hall : ∀ c, c < k → c ≠ z.1 → bkEmpty (bkN x.bs c) = false := fun c hc hcz => by
      cases he : bkEmpty (bkN x.bs c)
      · rfl
      · exact absurd ⟨c, hc, hcz, he⟩ hcon
    obtain ⟨b0, hb0, he0⟩ := h.emp
    have hbz : b0 = z.1 := by
      apply Classical.byContradiction
      intro hne
      rw [hall b0 hb0 hne] at he0
      cases he0
    have hbeg : begunOf (-1) (usL x) = [] := by
      cases hbe : begunOf (-1) (usL x) with
      | nil => rfl
      | cons w M =>
        unfold spotsM at hz
        rw [hbe, List.cons_append] at hz
        injection hz with hw _
        have hwm : w ∈ begunOf (-1) (usL x) := by rw [hbe]; exact List.mem_cons_self
        unfold begunOf at hwm
        obtain ⟨y, hy, hwy⟩ := List.mem_flatMap.1 hwm
        split at hwy
        · cases hwy
        · next hn =>
          rw [Bool.or_eq_true, not_or, Bool.not_eq_true, Bool.not_eq_true] at hn
          have h1 := (frs_mem.1 hwy).1
          rw [(us_mem.1 hy).2.2, ← h1, hw, ← hbz, he0] at hn
          cases hn.2
    refine hno ⟨hr, h.cheap hQ k5 (b0 := z.1) (by rw [← hbz]; exact hb0) (fun c hc hcz => ?_) h.tot⟩
    have hu : (c, bkN x.bs c) ∈ usL x := us_mem.2 ⟨by rw [hl]; exact hc, h.ret c, rfl⟩
    have hsk : skipB (-1) (c, bkN x.bs c) = false := by
      unfold skipB
      rw [decide_eq_false_iff_not]
      rintro (e | e)
      · dsimp only at e
        omega
      · exact e (h.head c hc)
    have hfrs : frs c (bkN x.bs c).kinds 8 = [] := by
      apply List.eq_nil_iff_forall_not_mem.2
      intro w hw
      have : w ∈ begunOf (-1) (usL x) := by
        unfold begunOf
        refine List.mem_flatMap.2 ⟨_, hu, ?_⟩
        rw [hsk, hall c hc hcz]
        exact hw
      rw [hbeg] at this
      cases this
    have hnum := frs_num c (bkN x.bs c).kinds 8
    rw [hfrs, List.length_nil] at hnum
    unfold frIn
    rw [if_pos (h.head c hc)]
    exact hnum.symm
theorem mLastL_cons {d : DrvM} {x : StoM} {pg : PageM} {z : Nat × Nat} {L : List (Nat × Nat)} (h : pgOk pg = true) : mLastL d x pg (z :: L) = mPut d x z.1 z.2 pg := by
  rw [mLastL, if_pos h]
theorem last_s (x : StoM) (pg : PageM) : (lastP x pg).s = pg.s := by
  unfold lastP
  rfl
theorem last_d (x : StoM) (pg : PageM) : valOf.d4OfM (lastP x pg) = valOf.d4OfM pg := by
  unfold lastP
  generalize ((allG x.bs pg.s).getD co0).1.p.q + 1#32 = q
  rfl
theorem last_q (x : StoM) (pg : PageM) (hq : ∀ p, PgS x.bs p → U p.q ≤ Q) (hQ : Q < 2147483647) (hQ0 : 0 ≤ Q) : 1 ≤ U (lastP x pg).q ∧ U (lastP x pg).q ≤ Q + 1 ∧ ∀ z, PgS x.bs z → z.s = pg.s → U z.q < U (lastP x pg).q := by
  have e : (lastP x pg).q = ((allG x.bs pg.s).getD co0).1.p.q + 1#32 := rfl
  rw [e, allG_is]
  cases hb : best (cnt x.bs) pg.s with
  | none =>
    have e1 : U ((((none : Option PlM).map fun y => (y, (best (cnt (restOf x.bs)) pg.s).getD pl0)).getD co0).1.p.q + 1#32) = 1 := rfl
    rw [e1]
    refine ⟨Int.le_refl _, by omega, fun z hz he => ?_⟩
    obtain ⟨y, hy, rfl⟩ := hz
    exact absurd he ((best_none _ _).1 hb y hy)
  | some y =>
    have ht := top_pg (best_top hb)
    have h1 := hq _ ht.mem
    have h0 := U_nonneg y.p.q
    have e1 : U ((((some y).map fun y => (y, (best (cnt (restOf x.bs)) pg.s).getD pl0)).getD co0).1.p.q + 1#32) = U y.p.q + 1 := by
      show U (y.p.q + 1#32) = _
      rw [← U_add, show U 1#32 = 1 from rfl]
      omega
    rw [e1]
    refine ⟨by omega, by omega, fun z hz he => ?_⟩
    have := ht.max z hz he
    omega
theorem Fit.doneT (h : Fit C k Q W d x) (hQ : Q < 2147483647) (hQ0 : 0 ≤ Q) (k5 : 5 ≤ k) {pg : PageM} (hp : pgOk { pg with q := 1#32 } = true) (hs : U pg.s < (((k - 3) * 6 : Nat) : Int)) (hno : ¬ (roomyM x = false ∧ (cheapM x (mvOf (allG x.bs) ((k - 3) * 6))).2 = true)) (hr : Room 7 d.f.chip) :
    ∃ d' x', mLast d x pg = (d', x', 0) ∧ Fit C k (Q + 1) W d' x' ∧ (∀ s, Val x'.bs s = if s = pg.s then valOf.d4OfM pg else Val x.bs s) ∧ Spent 7 d d' ∧ totF x'.bs k + 1 = totF x.bs k := by
  have hl := h.len
  have htot := h.tot
  have hnum := spots_all h.ret
  rw [hl] at hnum
  obtain ⟨z, L, hz⟩ : ∃ z L, spotsM x (-1) = z :: L := by
    cases hc : spotsM x (-1) with
    | nil => rw [hc, List.length_nil] at hnum; omega
    | cons z L => exact ⟨z, L, rfl⟩
  obtain ⟨c, hc, hcz, hce⟩ := h.other (by omega) k5 hz hno
  obtain ⟨q1, q2, q3⟩ := last_q x pg h.seq hQ hQ0
  have hpo : pgOk (lastP x pg) = true := by
    obtain ⟨q9, hq9⟩ : ∃ q9, lastP x pg = { pg with q := q9 } := ⟨_, rfl⟩
    rw [hq9] at q1 q2 ⊢
    have q1' : 1 ≤ U q9 := q1
    have q2' : U q9 ≤ Q + 1 := q2
    exact ok_with hp (q := q9) q1' (by omega)
  obtain ⟨g1, _, g3, _, g5, g6⟩ := spots_is (x := x) (wo := -1) (z := z) (by rw [hz]; exact List.mem_cons_self)
  have hzk : z.1 < k := by rw [← hl]; exact g1
  obtain ⟨d1, e1, s1, sp1⟩ := h.sys.put hr hzk g3 g5 g6 hpo
  have hok := sys_okN h.sys hzk
  obtain ⟨x1, hx1⟩ : ∃ x1 : StoM, x1 = { x with bs := putB x.bs z.1 z.2 (lastP x pg) } := ⟨_, rfl⟩
  rw [← hx1] at e1 s1
  have hb1 : x1.bs = putB x.bs z.1 z.2 (lastP x pg) := by rw [hx1]
  have hpg : ∀ p, PgS x1.bs p ↔ p = lastP x pg ∨ PgS x.bs p := fun p => by
    unfold PgS
    rw [hb1]
    constructor
    · rintro ⟨y, hy, rfl⟩
      rcases (mem_putB g1 hok g3 g6).1 hy with e | h
      · rw [e]; exact .inl rfl
      · exact .inr ⟨y, h, rfl⟩
    · rintro (rfl | ⟨y, hy, rfl⟩)
      · exact ⟨_, (mem_putB g1 hok g3 g6).2 (.inl rfl), rfl⟩
      · exact ⟨y, (mem_putB g1 hok g3 g6).2 (.inr hy), rfl⟩
  have hsec := last_s x pg
  refine ⟨d1, x1, ?_, ⟨s1, fun b hb => ?_, fun b => ?_, ?_, ?_, fun p hp => ?_, fun p hp => ?_, ⟨c, hc, ?_⟩, fun b => ?_, fun hC b hb => ?_, ?_⟩, fun s => ?_, sp1, ?_⟩
  · unfold mLast
    rw [hz]
    rw [mLastL_cons hpo]
    exact e1
  · rw [hb1, putB_head g1]
    exact h.head b hb
  · rw [hx1]
    exact h.ret b
  · rw [hx1]
    exact h.off
  · exact (un_new h.un hpg (fun z hz he => q3 z hz (he.trans hsec))).1
  · rcases (hpg p).1 hp with e | e
    · rw [e, hsec]
      exact hs
    · exact h.sec p e
  · rcases (hpg p).1 hp with e | e
    · rw [e]
      exact q2
    · have := h.seq p e
      omega
  · rw [hb1, putB_N g1, if_neg hcz]
    exact hce
  · rw [sp1.wear]
    exact h.wear b
  · have hc9 : (bkN (putB x.bs z.1 z.2 (lastP x pg)) b).count = (bkN x.bs b).count := by
      rw [putB_N g1]
      split
      · next e => rw [e]
      · rfl
    rw [hb1, hc9, sp1.wear]
    exact h.cw hC b hb
  · rw [sp1.endure]
    exact h.en
  · have hd := last_d x pg
    rw [val_new h.un hpg (fun z hz he => q3 z hz (he.trans hsec)) s, hsec, hd]
  · have h9 := totF_put g1 hok (h.head z.1 hzk) g3 g6 (lastP x pg)
    rw [hl] at h9
    rw [hb1]
    exact h9
theorem Fit.done (h : Fit C k Q W d x) (hQ : Q < 2147483647) (hQ0 : 0 ≤ Q) (k5 : 5 ≤ k) {pg : PageM} (hp : pgOk { pg with q := 1#32 } = true) (hs : U pg.s < (((k - 3) * 6 : Nat) : Int)) (hno : ¬ (roomyM x = false ∧ (cheapM x (mvOf (allG x.bs) ((k - 3) * 6))).2 = true)) (hr : Room 7 d.f.chip) :
    ∃ d' x', mLast d x pg = (d', x', 0) ∧ Fit C k (Q + 1) W d' x' ∧ (∀ s, Val x'.bs s = if s = pg.s then valOf.d4OfM pg else Val x.bs s) ∧ Spent 7 d d' := by
  obtain ⟨d', x', h1, h2, h3, h4, _⟩ := h.doneT hQ hQ0 k5 hp hs hno hr
  exact ⟨d', x', h1, h2, h3, h4⟩
theorem totF_le8 (x : StoM) : totF x.bs k ≤ 8 * k := totF_le _ _
theorem Fit.weaken {W' : Int} (h : Fit C k Q W d x) (hw : W ≤ W') : Fit C k Q W' d x := ⟨h.sys, h.head, h.ret, h.off, h.un, h.sec, h.seq, h.emp, fun b => Int.le_trans (h.wear b) hw, h.cw, h.en⟩
theorem Fit.add (k5 : 5 ≤ k) {pg : PageM} (hp : pgOk { pg with q := 1#32 } = true) (hs : U pg.s < (((k - 3) * 6 : Nat) : Int)) (hQ : Q < 2147483647) (hQ0 : 0 ≤ Q) : ∀ (n : Nat) {W : Int} {d : DrvM} {x : StoM}, Fit C k Q W d x → d.f.chip.left = 0 → W + n < d.f.chip.endure → 8 * k ≤ n + totF x.bs k →
    ∃ d' x', AddTo k pg n d x (d', x', 0) ∧ Fit C k (Q + 1) (W + n) d' x' ∧ (∀ s, Val x'.bs s = if s = pg.s then valOf.d4OfM pg else Val x.bs s) ∧ d'.f.chip.left = 0 ∧ d'.f.chip.endure = d.f.chip.endure ∧ d'.f.chip.pick = d.f.chip.pick := by
  intro n
  induction n with
  | zero =>
    intro W d x h hl hw ht
    have hle := totF_le8 (k := k) x
    by_cases hno : roomyM x = false ∧ (cheapM x (mvOf (allG x.bs) ((k - 3) * 6))).2 = true
    · obtain ⟨h1, h2, h3⟩ := cheap_is hno.2
      have hck : (cheapM x (mvOf (allG x.bs) ((k - 3) * 6))).1 < k := Nat.lt_of_lt_of_eq h1 h.len
      obtain ⟨d1, x1, e1, f1, v1, n1, p1, l1, t1⟩ := h.reclaim (by omega) (by omega) hck h3 (.inl hl)
      have := totF_le8 (k := k) x1
      have e : (mvAll k x (cheapM x (mvOf (allG x.bs) ((k - 3) * 6))).1).length = (mvOf (allG x.bs) ((k - 3) * 6) (cheapM x (mvOf (allG x.bs) ((k - 3) * 6))).1).length := rfl
      omega
    · obtain ⟨d1, x1, e1, f1, v1, sp⟩ := h.done hQ hQ0 k5 hp hs hno (.inl hl)
      have hway : (wayM k x (allG x.bs) pg.s).2 = false := by
        unfold wayM
        rw [if_neg hno, if_pos]
        have hlast := last_q x pg h.seq hQ hQ0
        rw [allG_is]
        cases hb : best (cnt x.bs) pg.s with
        | none =>
          show U pl0.p.q < 2147483648
          decide
        | some y =>
          have := h.seq _ (top_pg (best_top hb)).mem
          show U y.p.q < 2147483648
          omega
      refine ⟨d1, x1, ?_, f1.weaken (by omega), v1, ?_, sp.endure, sp.pick⟩
      · rw [← e1]
        exact .done hway
      · rw [sp.left]
        unfold burn
        rw [if_pos hl]
  | succ n ih =>
    intro W d x h hl hw ht
    by_cases hno : roomyM x = false ∧ (cheapM x (mvOf (allG x.bs) ((k - 3) * 6))).2 = true
    · obtain ⟨h1, h2, h3⟩ := cheap_is hno.2
      obtain ⟨b, hb⟩ : ∃ b, b = (cheapM x (mvOf (allG x.bs) ((k - 3) * 6))).1 := ⟨_, rfl⟩
      rw [← hb] at h1 h2 h3
      have hck : b < k := Nat.lt_of_lt_of_eq h1 h.len
      have hlen := fits_len h hck (ms := mvAll k x b) h3
      obtain ⟨d1, x1, e1, f1, v1, n1, p1, l1, t1⟩ := h.reclaim (by omega) (by omega) hck h3 (.inl hl)
      have hl1 : d1.f.chip.left = 0 := by rw [l1]; unfold burn; rw [if_pos hl]
      have e : (mvAll k x b).length = (mvOf (allG x.bs) ((k - 3) * 6) b).length := rfl
      obtain ⟨d2, x2, a2, f2, v2, l2, n2, p2⟩ := ih f1 hl1 (by rw [n1]; omega) (by omega)
      have hway : wayM k x (allG x.bs) pg.s = ((b : Int), true) := by
        unfold wayM
        rw [if_pos hno, hb]
      refine ⟨d2, x2, .more b hway hck hlen (by rw [e1]) (by rw [e1]; exact a2), f2.weaken (by omega), fun s => ?_, l2, n2.trans n1, p2.trans p1⟩
      rw [v2, v1]
    · obtain ⟨d1, x1, e1, f1, v1, sp⟩ := h.done hQ hQ0 k5 hp hs hno (.inl hl)
      have hway : (wayM k x (allG x.bs) pg.s).2 = false := by
        unfold wayM
        rw [if_neg hno, if_pos]
        rw [allG_is]
        cases hb : best (cnt x.bs) pg.s with
        | none =>
          show U pl0.p.q < 2147483648
          decide
        | some y =>
          have := h.seq _ (top_pg (best_top hb)).mem
          show U y.p.q < 2147483648
          omega
      refine ⟨d1, x1, ?_, f1.weaken (by omega), v1, ?_, sp.endure, sp.pick⟩
      · rw [← e1]
        exact .done hway
      · rw [sp.left]
        unfold burn
        rw [if_pos hl]
end
end Go.Proofs.YtpkkejdjhnmjiaaGreat
namespace Go.Proofs.YtpkkejdjhnmjiaaGreat
open Go.RowKit Bm Go.Shelf
section
variable {C : Prop} {k b : Nat} {Q W : Int} {d d' : DrvM} {x x' : StoM}
theorem look_up (h : d.f.chip.up = true) : dLook d = ⟨{ d.f with mode := 0 }, d.t⟩ := by
  unfold dLook
  rw [if_pos h]
theorem live_look (h : Live k d) : Live k (dLook d) := by
  have e := look_up h.up
  refine ⟨look_calm h.ok, ?_, fun i => ?_⟩
  · rw [e]; exact h.up
  · rw [e]; exact h.free i
theorem look_chip (h : Live k d) : (dLook d).f.chip = d.f.chip := by rw [look_up h.up]
theorem look_t (d : DrvM) : (dLook d).t = d.t := by
  unfold dLook
  split <;> rfl
theorem Sys.look (h : Sys k d x) : Sys k (dLook d) x := ⟨live_look h.live, by rw [look_chip h.live]; exact h.view⟩
theorem Fit.look (h : Fit C k Q W d x) : Fit C k Q W (dLook d) x := by
  have e := look_chip h.sys.live
  exact ⟨h.sys.look, h.head, h.ret, h.off, h.un, h.sec, h.seq, h.emp, by rw [e]; exact h.wear, by rw [e]; exact h.cw, by rw [e]; exact h.en⟩
theorem Fit.begin (h : Fit C k Q W d x) (k1 : 1 ≤ k) {a : Int} (a0 : 0 ≤ a) (a1 : a < secs k) : mBegin k d x a = (dLook d, x, 0) := by
  have hu := h.sys.live.up
  have hl := h.sys.live.ok.ok.chip.words
  have hv : (scOf d.f.chip.ws).1 = x.bs := by rw [view_sc hl k1 h.k2, h.sys.view]
  unfold mBegin
  rw [if_neg (by omega), h.off, if_neg (by decide)]
  unfold mNote mLook xLook lookE
  rw [hu, if_pos rfl, if_pos rfl, hv]
  have ho := h.off
  cases x
  simp only at ho
  rw [ho]
  rfl
theorem Fit.read (h : Fit C k Q W d x) (k1 : 1 ≤ k) {a : Nat} (a1 : (a : Int) < secs k) : rdM k d x a = Val x.bs (BitVec.ofNat 32 a) := by
  unfold rdM
  rw [h.begin k1 (by omega) a1, if_pos rfl]
  unfold rdOf Val Latest d4Of valOf.d4OfM
  rw [Int.toNat_natCast, of_find]
  cases best (cnt x.bs) (BitVec.ofNat 32 a) <;> rfl
theorem addTo_ticks {pg : PageM} {n : Nat} {R : DrvM × StoM × Int} (hk : k ≤ 19) (h : AddTo k pg n d x R) : d.t ≤ R.1.t ∧ R.1.t ≤ d.t + 3000 * (n + 1) := by
  induction h with
  | done h1 =>
    rename_i n d x
    have key : ∀ (L : List (Nat × Nat)) (p : PageM), d.t ≤ (mLastL d x p L).1.t ∧ (mLastL d x p L).1.t ≤ d.t + 21 := by
      intro L p
      cases L with
      | nil => rw [mLastL]; exact ⟨Int.le_refl _, by show d.t ≤ d.t + 21; omega⟩
      | cons z L =>
        rw [mLastL]
        split
        · exact mPut_ticks d x _ _ _
        · exact ⟨Int.le_refl _, by show d.t ≤ d.t + 21; omega⟩
    have := key (spotsM x (-1)) (lastP x pg)
    unfold mLast
    omega
  | stop b h1 h2 h3 h4 =>
    rename_i n d x
    have h7 := reclaim_ticks d x b hk
    omega
  | more b h1 h2 h3 h4 h5 ih =>
    rename_i n d x R
    have h6 := reclaim_ticks d x b hk
    omega
theorem chg_fit (h : Fit C k Q W d x) (k1 : 1 ≤ k) {a : Int} (a0 : 0 ≤ a) (a1 : a < secs k) {R : DrvM × StoM × Int} (ho : R.2.1.off = false) (he : R.2.2 = 0) : mChg k d x a R = R := by
  unfold mChg
  rw [h.begin k1 a0 a1, if_pos rfl]
  unfold mNote
  rw [ho, he]
  obtain ⟨d1, x1, e⟩ := R
  obtain ⟨bs, ret, off⟩ := x1
  simp only at ho he
  subst ho he
  rfl
theorem Fit.act (h : Fit C k Q W d x) (k5 : 5 ≤ k) (hQ : Q < 2147483647) (hQ0 : 0 ≤ Q) (hl : d.f.chip.left = 0) (hw : W + ((8 * k : Nat) : Int) < d.f.chip.endure) {a : Nat} (ha : (a : Int) < secs k) {pg : PageM} (hp : pgOk { ({ pg with s := BitVec.ofNat 32 a } : PageM) with q := 1#32 } = true) :
    ∃ d' x', AddTo k { pg with s := BitVec.ofNat 32 a } (8 * k) (dLook d) x (d', x', 0) ∧ Fit C k (Q + 1) (W + ((8 * k : Nat) : Int)) d' x' ∧ (∀ s, Val x'.bs s = if s = BitVec.ofNat 32 a then valOf.d4OfM pg else Val x.bs s) ∧ d'.f.chip.left = 0 ∧ d'.f.chip.endure = d.f.chip.endure := by
  have e := look_chip h.sys.live
  have hk := h.k2
  have ha2 : (a : Int) < (((k - 3) * 6 : Nat) : Int) := by unfold secs at ha; omega
  have hs : U (BitVec.ofNat 32 a) = (a : Int) := U_ofNat a (by omega)
  obtain ⟨d', x', h1, h2, h3, h4, h5, _⟩ := Fit.add k5 (pg := { pg with s := BitVec.ofNat 32 a }) hp (by show U (BitVec.ofNat 32 a) < _; rw [hs]; exact ha2) hQ hQ0 (8 * k) h.look (by rw [e]; exact hl) (by rw [e]; exact hw) (by omega)
  exact ⟨d', x', h1, h2, h3, h4, by rw [h5, e]⟩
theorem fix_good (h : ∀ b, b < k → (bkN x.bs b).head = 1) : ∀ l : List Nat, (∀ b ∈ l, b < k) → mFix d x l = (d, x, 0)
  | [], _ => mFix_nil d x
  | b :: l, hl => by
    have e : mFixS d x b = (d, x, 0) := if_pos (h b (hl b List.mem_cons_self))
    rw [mFix_go (by rw [e]), e]
    exact fix_good h l fun c hc => hl c (List.mem_cons_of_mem _ hc)
theorem Fit.mount (h : Fit C k Q W d x) (k1 : 1 ≤ k) : mFix (dLook d) (x0 d.f.chip.ws) (List.range k) = (dLook d, x0 d.f.chip.ws, 0) ∧ Fit C k Q W (dLook d) (x0 d.f.chip.ws) ∧ (x0 d.f.chip.ws).bs = x.bs := by
  have hl := h.sys.live.ok.ok.chip.words
  have hv : (x0 d.f.chip.ws).bs = x.bs := by
    show (scOf d.f.chip.ws).1 = x.bs
    rw [view_sc hl k1 h.k2, h.sys.view]
  have h' := h.look
  have hf : Fit C k Q W (dLook d) (x0 d.f.chip.ws) := by
    refine ⟨⟨h'.sys.live, by rw [hv]; exact h'.sys.view⟩, by rw [hv]; exact h.head, fun b => ?_, rfl, by rw [hv]; exact h.un, by rw [hv]; exact h.sec, by rw [hv]; exact h.seq, by rw [hv]; exact h.emp, h'.wear, by rw [hv]; exact h'.cw, h'.en⟩
    show bo (List.replicate 64 false) b = false
    unfold bo
    rw [List.getD_eq_getElem?_getD, List.getElem?_replicate]
    split <;> rfl
  exact ⟨fix_good hf.head _ fun b hb => List.mem_range.1 hb, hf, hv⟩
structure Anew (k j : Nat) (d0 : DrvM) (x0 : StoM) (d : DrvM) (x : StoM) : Prop where
  sys : Sys k d x
  done : ∀ i, i < j → ∃ c, bkN x.bs i = blkG c ∧ U c = nm d0.f.chip.wear i + 1
  rest : ∀ i, j ≤ i → bkN x.bs i = bkN x0.bs i
  wear : ∀ i, i < k → nm d.f.chip.wear i = nm d0.f.chip.wear i + if i < j then 1 else 0
  ret : x.ret = x0.ret
  off : x.off = x0.off
  left : d.f.chip.left = 0
  endure : d.f.chip.endure = d0.f.chip.endure
theorem anew {d0 : DrvM} {x0 : StoM} (h : Sys k d0 x0) (hl : d0.f.chip.left = 0) (hW : ∀ i, i < k → nm d0.f.chip.wear i < d0.f.chip.endure)
    (hstep : ∀ j d x, j < k → Anew k j d0 x0 d x → U (ncM x.bs j) = nm d0.f.chip.wear j + 1) : ∀ j, j ≤ k → ∃ d x, mRenews d0 x0 (List.range j) = (d, x, 0) ∧ Anew k j d0 x0 d x
  | 0, _ => ⟨d0, x0, mRenews_nil d0 x0, ⟨h, fun i hi => by omega, fun _ _ => rfl, fun i _ => by rw [if_neg (by omega)]; omega, rfl, rfl, hl, rfl⟩⟩
  | j + 1, hj => by
    obtain ⟨d, x, e, a⟩ := anew h hl hW hstep j (by omega)
    have hjk : j < k := by omega
    have hxl : x.bs.length = k := by rw [a.sys.view, view_len]
    have hwl : d.f.chip.wear.length = k := a.sys.live.ok.ok.chip.wears
    have hwj := a.wear j hjk
    rw [if_neg (Nat.lt_irrefl j)] at hwj
    obtain ⟨d1, e1, s1, wo⟩ := a.sys.remake (.inl a.left) hjk (by rw [hwj, a.endure]; have := hW j hjk; omega)
    have hc := hstep j d x hjk a
    have er : mRenew d x j = (d1, { x with bs := x.bs.set j (blkG (ncM x.bs j)) }, 0) := by
      unfold mRenew
      rw [e1]
      rfl
    refine ⟨d1, { x with bs := x.bs.set j (blkG (ncM x.bs j)) }, ?_, ⟨s1, fun i hi => ?_, fun i hi => ?_, fun i hi => ?_, a.ret, a.off, ?_, ?_⟩⟩
    · rw [List.range_succ, mRenews_snoc _ _ _ _ (by rw [e]), e]
      exact er
    · show ∃ c, bkN (x.bs.set j (blkG (ncM x.bs j))) i = blkG c ∧ _
      rw [bkN_set (by rw [hxl]; exact hjk)]
      by_cases ei : i = j
      · rw [if_pos ei, ei]
        exact ⟨_, rfl, hc⟩
      · rw [if_neg ei]
        exact a.done i (by omega)
    · show bkN (x.bs.set j (blkG (ncM x.bs j))) i = _
      rw [bkN_set (by rw [hxl]; exact hjk), if_neg (by omega)]
      exact a.rest i (by omega)
    · rw [wo.wear, nm_set _ _ _ _ (by rw [hwl]; exact hjk)]
      by_cases ei : i = j
      · rw [if_pos ei, ei, if_pos (by omega), hwj]
        omega
      · rw [if_neg ei, a.wear i hi]
        by_cases hij : i < j
        · rw [if_pos hij, if_pos (by omega)]
        · rw [if_neg hij, if_neg (by omega)]
    · rw [wo.left]
      unfold burn
      rw [if_pos a.left]
    · rw [wo.endure, a.endure]
theorem Anew.fit {d0 : DrvM} {x0 : StoM} (a : Anew k k d0 x0 d x) (k1 : 1 ≤ k) (hret : ∀ b, bo x0.ret b = false) (hoff : x0.off = false) (hW0 : 0 ≤ W) (hw : ∀ b, nm d0.f.chip.wear b ≤ W) (hen : d0.f.chip.endure ≤ 2147483648) : Fit C k 0 (W + 1) d x ∧ ∀ s, Val x.bs s = valOf.d4OfM pg0 := by
  have hl : x.bs.length = k := by rw [a.sys.view, view_len]
  have hno : cnt x.bs = [] := cnt_none fun b i hb hi => by
    obtain ⟨c, e, _⟩ := a.done b (by rw [← hl]; exact hb)
    rw [e, blkG_kind]
    decide
  have hnp : ∀ p, ¬ PgS x.bs p := fun p ⟨y, hy, _⟩ => by rw [hno] at hy; cases hy
  have hwl : d.f.chip.wear.length = k := a.sys.live.ok.ok.chip.wears
  refine ⟨⟨a.sys, fun b hb => ?_, fun b => by rw [a.ret]; exact hret b, by rw [a.off]; exact hoff, fun s p r hp _ => absurd hp.mem (hnp p), fun p hp => absurd hp (hnp p), fun p hp => absurd hp (hnp p), ⟨0, k1, ?_⟩, fun b => ?_, fun _ b hb => ?_, by rw [a.endure]; exact hen⟩, fun s => val_none fun p hp => absurd hp (hnp p)⟩
  · obtain ⟨c, e, _⟩ := a.done b hb
    rw [e]
    rfl
  · obtain ⟨c, e, _⟩ := a.done 0 k1
    rw [e, empty_fr]
    rfl
  · by_cases hb : b < k
    · have := a.wear b hb
      rw [if_pos hb] at this
      have := hw b
      omega
    · have h0 : nm d.f.chip.wear b = 0 := by
        unfold nm
        rw [List.getD_eq_getElem?_getD, List.getElem?_eq_none (by omega)]
        rfl
      omega
  · obtain ⟨c, e, hc⟩ := a.done b hb
    have := a.wear b hb
    rw [if_pos hb] at this
    rw [e, this]
    exact hc
theorem counts_leB {n : Int} (l : List BlkM) : ∀ (c : BitVec 32), U c ≤ n → (∀ y ∈ l, y.head = 1 → U y.count ≤ n) → U (l.foldl bkMax c) ≤ n := by
  induction l with
  | nil => intro c hc _; exact hc
  | cons y l ih =>
    intro c hc h
    rw [List.foldl_cons]
    refine ih _ ?_ (fun e he => h e (List.mem_cons_of_mem _ he))
    unfold bkMax
    split
    · next hy => exact h y List.mem_cons_self hy.1
    · exact hc
theorem x0_ret (ws : List (BitVec 32)) (b : Nat) : bo (x0 ws).ret b = false := by
  show bo (List.replicate 64 false) b = false
  unfold bo
  rw [List.getD_eq_getElem?_getD, List.getElem?_replicate]
  split <;> rfl
theorem new_fit {endure : Int} (k1 : 1 ≤ k) (k2 : k ≤ 64) (e0 : 0 < endure) (e1 : endure ≤ 2147483648) {d : DrvM} (hd : d = ⟨fNew (mNew k endure), 0⟩) :
    ∃ d' x', mRenews (dLook d) (x0 d.f.chip.ws) (List.range k) = (d', x', 0) ∧ Fit C k 0 1 d' x' ∧ (∀ s, Val x'.bs s = valOf.d4OfM pg0) ∧ d'.f.chip.left = 0 ∧ d'.f.chip.endure = endure := by
  have hok : DrvOk k d := by rw [hd]; exact ⟨newOk k endure k1 k2 (by omega) (by omega), ⟨rfl, rfl, rfl⟩⟩
  have hlive : Live k d := ⟨hok, by rw [hd]; rfl, fun i => by
    rw [hd]
    show lk noLocks i = false
    unfold lk noLocks
    rw [List.getD_eq_getElem?_getD, List.getElem?_replicate]
    split <;> rfl⟩
  have hc := look_chip hlive
  have hws : d.f.chip.ws = List.replicate (k * 64) 4294967295#32 := by rw [hd]; rfl
  have hwear : ∀ i, nm d.f.chip.wear i = 0 := fun i => by
    rw [hd]
    show nm (List.replicate k 0) i = 0
    unfold nm
    rw [List.getD_eq_getElem?_getD, List.getElem?_replicate]
    split <;> rfl
  have hen : d.f.chip.endure = endure := by rw [hd]; rfl
  have hleft : d.f.chip.left = 0 := by rw [hd]; rfl
  have hv : (x0 d.f.chip.ws).bs = viewOf k d.f.chip.ws := view_sc hok.ok.chip.words k1 k2
  have hsys : Sys k (dLook d) (x0 d.f.chip.ws) := ⟨live_look hlive, by rw [hc]; exact hv⟩
  have hhead : ∀ i, i < k → (bkN (x0 d.f.chip.ws).bs i).head = 0 := fun i hi => by
    rw [hv, view_N hi, bkOf_win]
    show (hdRd (win d.f.chip.ws (64 * i) 4)).2 = 0
    have : win d.f.chip.ws (64 * i) 4 = onesW 4 := by
      apply List.ext_getElem?
      intro j
      rw [win_get, hws]
      unfold onesW
      rw [List.getElem?_replicate, List.getElem?_replicate]
      by_cases hj : j < 4
      · rw [if_pos hj, if_pos hj, if_pos (by omega)]
      · rw [if_neg hj, if_neg hj]
    rw [this]
    decide
  have hstep : ∀ j d1 x1, j < k → Anew k j (dLook d) (x0 d.f.chip.ws) d1 x1 → U (ncM x1.bs j) = nm (dLook d).f.chip.wear j + 1 := fun j d1 x1 hj a => by
    have hx : (bkN x1.bs j).head = 0 := by rw [a.rest j (Nat.le_refl _)]; exact hhead j hj
    have hl1 : x1.bs.length = k := by rw [a.sys.view, view_len]
    have hle : U (bkCounts x1.bs) ≤ 1 := counts_leB _ _ (by decide) (fun y hy h1 => by
      obtain ⟨i, hi, rfl⟩ := List.getElem_of_mem hy
      have e : x1.bs[i] = bkN x1.bs i := by
        have := bkN_get (bs := x1.bs) hi
        rw [List.getElem?_eq_getElem hi] at this
        exact Option.some.inj this
      rw [e] at h1 ⊢
      by_cases hij : i < j
      · obtain ⟨c, e1, e2⟩ := a.done i hij
        rw [e1]
        show U c ≤ 1
        rw [e2, hc, hwear]
        decide
      · rw [a.rest i (by omega), hhead i (by omega)] at h1
        cases h1)
    have h0 := U_nonneg (bkCounts x1.bs)
    unfold ncM
    rw [if_neg (by rw [hx]; decide), hc, hwear]
    by_cases h1 : U (bkCounts x1.bs) < 1
    · rw [if_pos h1]
      rfl
    · rw [if_neg h1]
      omega
  obtain ⟨d', x', e, a⟩ := anew hsys (by rw [hc]; exact hleft) (fun i _ => by rw [hc, hwear, hen]; exact e0) hstep k (Nat.le_refl _)
  obtain ⟨f1, f2⟩ := a.fit k1 (fun b => x0_ret _ b) rfl (Int.le_refl 0) (fun b => by rw [hc, hwear]; exact Int.le_refl _) (by rw [hc, hen]; exact e1)
  exact ⟨d', x', e, f1, f2, a.left, by rw [a.endure, hc, hen]⟩
theorem Fit.format (h : Fit C k Q W d x) (hC : C) (k1 : 1 ≤ k) (hl : d.f.chip.left = 0) (hW0 : 0 ≤ W) (hW : W < d.f.chip.endure) :
    ∃ d' x', mRenews (dLook d) (x0 d.f.chip.ws) (List.range k) = (d', x', 0) ∧ Fit C k 0 (W + 1) d' x' ∧ (∀ s, Val x'.bs s = valOf.d4OfM pg0) ∧ d'.f.chip.left = 0 ∧ d'.f.chip.endure = d.f.chip.endure := by
  have hc := look_chip h.sys.live
  obtain ⟨_, f, hv⟩ := h.mount k1
  have hstep : ∀ j d1 x1, j < k → Anew k j (dLook d) (x0 d.f.chip.ws) d1 x1 → U (ncM x1.bs j) = nm (dLook d).f.chip.wear j + 1 := fun j d1 x1 hj a => by
    have h1 := f.head j hj
    have h2 := f.cw hC j hj
    have h3 := f.wear j
    have h4 := f.en
    have h5 : (dLook d).f.chip.endure = d.f.chip.endure := by rw [hc]
    have h0 := U_nonneg (bkN (x0 d.f.chip.ws).bs j).count
    have hU : U ((bkN (x0 d.f.chip.ws).bs j).count + 1#32) = U (bkN (x0 d.f.chip.ws).bs j).count + 1 := by
      rw [← U_add, show U 1#32 = 1 from rfl]
      omega
    unfold ncM
    rw [a.rest j (Nat.le_refl _), if_pos h1, if_pos (by omega), hU, h2]
  obtain ⟨d', x', e, a⟩ := anew f.sys (by rw [hc]; exact hl) (fun i _ => by have := f.wear i; rw [hc] at this ⊢; omega) hstep k (Nat.le_refl _)
  obtain ⟨f1, f2⟩ := a.fit k1 (fun b => x0_ret _ b) rfl hW0 f.wear f.en
  exact ⟨d', x', e, f1, f2, a.left, by rw [a.endure, hc]⟩
end
end Go.Proofs.YtpkkejdjhnmjiaaGreat
