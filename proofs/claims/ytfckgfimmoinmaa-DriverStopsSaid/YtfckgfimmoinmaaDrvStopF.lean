/- Plain facts for the statement DriverStops: words are programmed, and the power goes at one of them. -/
import Derived.Test.YtfckgfimmoinmaaDrvFacts
import Derived.Test.YtfckgfimmoinmaaDrvWordF
namespace Go.Proofs.Ytfckgfimmoinmaa
open Bm

theorem left_program {c : ChipM} (hu : c.up = true) (L : Int) (hl : c.left = L) (h2 : 2 ≤ L) (i : Nat) (v : BitVec 32) (hi : i < c.ws.length) : mProgram c i v = ({ c with left := L - 1, ws := c.ws.set i (wd c.ws i &&& v) }, 0) := by
  unfold mProgram
  rw [if_pos (by unfold mRefuse; rw [if_neg (by rw [hu]; decide), if_neg (by omega)])]
  unfold mProgramDo mPick mErr mChange
  rw [hl, if_neg (by omega), if_neg (by omega), if_neg (by omega), if_neg (by omega), partB_ones]
  rfl

/-- What a stopped program leaves. -/
def stopWs (ws : List (BitVec 32)) (i : Nat) (L : Nat) (pick : BitVec 32) (l : List (BitVec 32)) (j : Nat) : BitVec 32 :=
  if i ≤ j ∧ j + 1 < i + L then wd ws j &&& wd l (j - i) else if j + 1 = i + L then partB (wd ws j) (wd ws j &&& wd l (j - i)) pick else wd ws j

theorem stop_prog {k : Nat} (l : List (BitVec 32)) : ∀ (d : DrvM) (i L : Nat), DrvOk k d → d.f.chip.up = true → d.f.chip.left = L → 1 ≤ L → i + l.length ≤ k * 64 → (∀ b, lk d.f.locks b = false) →
    (l.length < L → (dProgram d i l).2 = 0 ∧ (dProgram d i l).1.f.chip.up = true) ∧
    (L ≤ l.length → (dProgram d i l).2 = 4 ∧ (dProgram d i l).1.f.chip.up = false ∧ ∀ j, wd (dProgram d i l).1.f.chip.ws j = stopWs d.f.chip.ws i L d.f.chip.pick l j) := by
  induction l with
  | nil =>
    intro d i L h hu hl h1 hi hk
    exact ⟨fun _ => ⟨rfl, hu⟩, fun h => absurd h (by simp; omega)⟩
  | cons v l ih =>
    intro d i L h hu hl h1 hi hk
    simp only [List.length_cons] at hi ⊢
    have hlen : d.f.chip.ws.length = k * 64 := h.ok.chip.words
    have hr : fRefuse d.f i = 0 := fRefuse_on hu i (by omega) (by omega)
    by_cases h2 : 2 ≤ L
    · have hp := left_program hu L hl (by omega) i v (by omega)
      have e : dPut d i v = (⟨{ d.f with mode := 1, chip := { d.f.chip with left := (L : Int) - 1, ws := d.f.chip.ws.set i (wd d.f.chip.ws i &&& v) } }, d.t + 3⟩, 0) := by
        unfold dPut
        rw [if_pos hr, if_neg (by rw [hk]; decide), hp]
      have c := put_calm h i v
      have ed : dProgram d i (v :: l) = dProgram (dPut d i v).1 ((i + 1 : Nat) : Int) l := by
        rw [dProgram, e, if_pos rfl]
        rfl
      rw [ed]
      rw [e] at c ⊢
      obtain ⟨q1, q2⟩ := ih _ (i + 1) (L - 1) c hu (by show (L : Int) - 1 = ((L - 1 : Nat) : Int); omega) (by omega) (by omega) hk
      refine ⟨fun h => q1 (by omega), fun h => ?_⟩
      obtain ⟨r1, r2, r3⟩ := q2 (by omega)
      refine ⟨r1, r2, fun j => ?_⟩
      rw [r3 j]
      unfold stopWs
      simp only
      by_cases hj : i = j
      · subst hj
        rw [if_neg (by omega), if_neg (by omega), if_pos (by omega), wd_set_self _ _ _ (by omega), Nat.sub_self]
        rfl
      · rw [wd_set_other _ _ _ _ hj]
        by_cases ha : i + 1 ≤ j ∧ j + 1 < i + 1 + (L - 1)
        · rw [if_pos ha, if_pos (by omega), show j - i = (j - (i + 1)) + 1 by omega]
          rfl
        · by_cases hb : j + 1 = i + 1 + (L - 1)
          · rw [if_neg ha, if_pos hb, if_neg (by omega), if_pos (by omega), show j - i = (j - (i + 1)) + 1 by omega]
            rfl
          · rw [if_neg ha, if_neg hb, if_neg (by omega), if_neg (by omega)]
    · have hL : L = 1 := by omega
      subst hL
      have hp := Fused.program (c := d.f.chip) ⟨hu, hl⟩ i v (by omega)
      have e : dPut d i v = (⟨{ d.f with mode := 1, chip := { d.f.chip with left := 0, up := false, ws := d.f.chip.ws.set i (partB (wd d.f.chip.ws i) (wd d.f.chip.ws i &&& v) d.f.chip.pick) } }, d.t + 3⟩, 4) := by
        unfold dPut
        rw [if_pos hr, if_neg (by rw [hk]; decide), hp]
      have ed : dProgram d i (v :: l) = dPut d i v := by
        rw [dProgram, e, if_neg (by simp)]
      rw [ed, e]
      refine ⟨fun h => absurd h (by omega), fun _ => ⟨rfl, rfl, fun j => ?_⟩⟩
      unfold stopWs
      simp only
      by_cases hj : i = j
      · subst hj
        rw [if_neg (by omega), if_pos rfl, wd_set_self _ _ _ (by omega), Nat.sub_self]
        rfl
      · rw [wd_set_other _ _ _ _ hj, if_neg (by omega), if_neg (by omega)]
theorem part_in (v p : BitVec 32) : partB ones v p &&& ~~~(v ||| ~~~p) = 0#32 := by
  rw [sub_iff]
  intro i h0 h1 h
  rw [gb_part] at h
  rw [gb_or, gb_not]
  by_cases hp : gb p i = true
  · rw [if_pos hp] at h
    rw [h]; rfl
  · rw [Bool.eq_false_iff.2 hp]
    simp [h0, h1]

theorem off_refuses {m : FlashM} (h : m.chip.up = false) (a : Int) : fRefuse m a = 4 := off_refuse h a _
theorem off_read {d : DrvM} (h : d.f.chip.up = false) : dRead d 0 1 = (d, [], 4) := by
  unfold dRead
  rw [if_neg (by omega), if_neg (by omega), off_refuses h, if_neg (by omega)]
theorem off_erase {d : DrvM} (h : d.f.chip.up = false) : dErase d 0 = (d, 4) := by
  unfold dErase
  rw [off_refuses h, if_neg (by omega)]
theorem off_put {d : DrvM} (h : d.f.chip.up = false) (v : BitVec 32) : dProgram d 0 [v] = (d, 4) := by
  have e : dPut d 0 v = (d, 4) := by
    unfold dPut
    rw [off_refuses h, if_neg (by omega)]
  rw [dProgram, e, if_neg (by simp)]

/-- What DriverStops comes by. -/
structure StopF (k : Nat) (xs : List (BitVec 32)) (L : Nat) (pick : BitVec 32) (d0 d1 : DrvM) (n : Int) : Prop where
  e0 : d0 = ⟨{ fNew (mNew 2 5) with chip := mFuse (mNew 2 5) L pick }, 0⟩
  e1 : dProgram d0 k xs = (d1, n)
  o0 : DrvOk 2 d0
  o1 : DrvOk 2 d1
  t1 : 0 ≤ d1.t ∧ d1.t ≤ 1000
  far : xs.length < L → n = 0 ∧ d1.f.chip.up = true
  near : L ≤ xs.length → n = 4 ∧ d1.f.chip.up = false
  ahead : L ≤ xs.length → ∀ i, i + 1 < L → wd d1.f.chip.ws (k + i) = wd xs i
  behind : L ≤ xs.length → ∀ i, L < i + 1 → i < xs.length → wd d1.f.chip.ws (k + i) = ones
  part : L ≤ xs.length → ∀ i, i + 1 = L → wd d1.f.chip.ws (k + i) &&& ~~~(wd xs i ||| ~~~pick) = 0#32
theorem stopF (k : Nat) (xs : List (BitVec 32)) (L : Nat) (pick : BitVec 32) (hk : k < 100) (hx : xs.length ≤ 10) (h1 : 1 ≤ L) (h2 : L ≤ 12) : ∃ d0 d1 n, StopF k xs L pick d0 d1 n := by
  have o : DrvOk 2 ⟨{ fNew (mNew 2 5) with chip := mFuse (mNew 2 5) L pick }, 0⟩ :=
    ⟨(Fit.new 2 5 (by omega) (by omega) (by omega) (by omega)).ok.ok.chipTo _ ((Fit.new 2 5 (by omega) (by omega) (by omega) (by omega)).ok.ok.chip.fuse _ _ (by omega)), ⟨rfl, rfl, rfl⟩⟩
  obtain ⟨q1, q2⟩ := stop_prog xs _ k L o rfl (by show max (L : Int) 0 = L; omega) h1 (by omega) (fun b => lk_none b)
  have tt := program_ticks xs ⟨{ fNew (mNew 2 5) with chip := mFuse (mNew 2 5) L pick }, 0⟩ (k : Int)
  have hlen : (mNew 2 5).ws.length = 128 := new2_len'
  refine ⟨_, _, _, rfl, rfl, o, program_calm xs _ o, ⟨tt.1, by have h9 : _ ≤ (0 : Int) + 3 * (xs.length : Int) := tt.2; omega⟩, q1, fun h => ⟨(q2 h).1, (q2 h).2.1⟩, fun h i hi => ?_, fun h i hi hi2 => ?_, fun h i hi => ?_⟩
  · rw [(q2 h).2.2 (k + i)]
    unfold stopWs
    rw [if_pos (by omega), show k + i - k = i by omega]
    show wd (mNew 2 5).ws (k + i) &&& wd xs i = wd xs i
    rw [new2_wd _ (by omega), and_ones]
  · rw [(q2 h).2.2 (k + i)]
    unfold stopWs
    rw [if_neg (by omega), if_neg (by omega)]
    exact new2_wd _ (by omega)
  · rw [(q2 h).2.2 (k + i)]
    unfold stopWs
    rw [if_neg (by omega), if_pos (by omega), show k + i - k = i by omega]
    show partB (wd (mNew 2 5).ws (k + i)) (wd (mNew 2 5).ws (k + i) &&& wd xs i) pick &&& _ = _
    rw [new2_wd _ (by omega), and_ones]
    exact part_in _ _
end Go.Proofs.Ytfckgfimmoinmaa
