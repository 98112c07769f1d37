/- Facts about the latest places (layer latest): what is lost without a block, what one page more changes. -/
import Derived.Test.YtfpfcmgcfbkolaaLatMath
namespace Go.Proofs.Ytfpfcmgcfbkolaa
open Go.RowKit Bm

/-- One page ahead of another. -/
def Ahead (a b : PlM) : Prop := a.b < b.b ∨ (a.b = b.b ∧ a.i < b.i)
theorem cntB_ahead (bs : List BlkM) (b : Nat) : ∀ k, (cntB bs b k).Pairwise Ahead
  | 0 => List.Pairwise.nil
  | k + 1 => by
    rw [cntB_succ]
    refine List.pairwise_append.2 ⟨cntB_ahead bs b k, ?_, ?_⟩
    · split <;> simp
    · intro x hx y hy
      obtain ⟨i, hi, _, rfl⟩ := mem_cntB.1 hx
      split at hy
      · obtain rfl : y = _ := List.mem_singleton.1 hy
        exact .inr ⟨rfl, by simpa using hi⟩
      · simp at hy
theorem cntU_ahead (bs : List BlkM) : ∀ j, (cntU bs j).Pairwise Ahead
  | 0 => List.Pairwise.nil
  | j + 1 => by
    rw [cntU_succ]
    refine List.pairwise_append.2 ⟨cntU_ahead bs j, cntB_ahead bs j 8, ?_⟩
    intro x hx y hy
    unfold cntU at hx
    obtain ⟨b, hb, hx⟩ := List.mem_flatMap.1 hx
    obtain ⟨i, _, _, rfl⟩ := mem_cntB.1 hx
    obtain ⟨i', _, _, rfl⟩ := mem_cntB.1 hy
    refine .inl ?_
    have : b < j := by simpa using hb
    show (b : Int) < (j : Int)
    omega
theorem cnt_ahead (bs : List BlkM) : (cnt bs).Pairwise Ahead := cntU_ahead bs _
theorem beats_iff {y x : PlM} : beats y x = true ↔ y.p.s = x.p.s ∧ ¬ (y.b = x.b ∧ y.i = x.i) ∧ (U x.p.q < U y.p.q ∨ (y.p.q = x.p.q ∧ (y.b ≠ x.b ∨ y.i < x.i))) := by unfold beats; exact decide_eq_true_iff
theorem needs_iff {all : List PlM} {x : PlM} : lNeeds all x = true ↔ ∀ y ∈ all, ¬ beats y x = true := by
  unfold lNeeds
  rw [List.all_eq_true]
  constructor
  · intro h y hy; simpa using h y hy
  · intro h y hy; simpa using h y hy
theorem mem_needed {all : List PlM} {k : Int} {x : PlM} : x ∈ lNeeded all k ↔ x ∈ all ∧ x.b = k ∧ lNeeds all x = true := by
  unfold lNeeded
  rw [List.mem_filter, Bool.and_eq_true, decide_eq_true_iff]
/-- Of no sector two pages of a block are needed. -/
theorem needed_one {all : List PlM} (ha : all.Pairwise Ahead) (k : Int) : (lNeeded all k).Pairwise fun a b => a.p.s ≠ b.p.s := by
  have h0 : (lNeeded all k).Pairwise Ahead := List.Pairwise.filter _ ha
  refine List.Pairwise.imp_of_mem (fun {a b} hma hmb hab hs => ?_) h0
  obtain ⟨a1, a2, a3⟩ := mem_needed.1 hma
  obtain ⟨b1, b2, b3⟩ := mem_needed.1 hmb
  have hb : a.b = b.b := a2.trans b2.symm
  have hi : a.i < b.i := by rcases hab with h | h <;> omega
  by_cases hq : U a.p.q < U b.p.q
  · exact needs_iff.1 a3 b b1 (beats_iff.2 ⟨hs.symm, fun h => by omega, .inl hq⟩)
  · refine needs_iff.1 b3 a a1 (beats_iff.2 ⟨hs, fun h => by omega, ?_⟩)
    by_cases he : U b.p.q < U a.p.q
    · exact .inl he
    · exact .inr ⟨U_inj (by omega), .inr hi⟩
/-- Without a block: a sector that none of its pages is needed of has a latest page of the same number, and no other one has. -/
theorem lost_same {all : List PlM} (ha : all.Pairwise Ahead) {k : Int} {s : BitVec 32} {x : PlM} (hx : best all s = some x) :
    (∀ z ∈ lNeeded all k, z.p.s ≠ s) ↔ ∃ y, best (all.filter fun z => decide (z.b ≠ k)) s = some y ∧ y.p.q = x.p.q := by
  obtain ⟨x1, x2, x3⟩ := best_some all s x hx
  constructor
  · intro hn
    by_cases hex : ∃ y ∈ all, y.b ≠ k ∧ y.p.s = s ∧ y.p.q = x.p.q
    · obtain ⟨y, y1, y2, y3, y4⟩ := hex
      have ym : y ∈ all.filter fun z => decide (z.b ≠ k) := List.mem_filter.2 ⟨y1, by simpa using y2⟩
      cases hb : best (all.filter fun z => decide (z.b ≠ k)) s with
      | none => exact absurd y3 ((best_none _ s).1 hb y ym)
      | some z =>
        obtain ⟨z1, z2, z3⟩ := best_some _ s z hb
        refine ⟨z, rfl, U_inj ?_⟩
        have h1 := z3 y ym y3
        have h2 := x3 z (List.mem_filter.1 z1).1 z2
        rw [y4] at h1
        omega
    · exfalso
      have hno : ∀ y ∈ all, y.b ≠ k → y.p.s = s → y.p.q ≠ x.p.q := fun y h1 h2 h3 h4 => hex ⟨y, h1, h2, h3, h4⟩
      have hxk : x.b = k := Classical.byContradiction fun h => hno x x1 h x2 rfl
      cases hf : all.find? fun z => decide (z.b = k ∧ z.p.s = s ∧ z.p.q = x.p.q) with
      | none => exact absurd (by simpa using (List.find?_eq_none.1 hf x x1)) (by simp [hxk, x2])
      | some z =>
        obtain ⟨hz, pre, post, he, hpre⟩ := List.find?_eq_some_iff_append.1 hf
        have hz' : z.b = k ∧ z.p.s = s ∧ z.p.q = x.p.q := by simpa using hz
        have zm : z ∈ all := by rw [he]; simp
        refine hn z (mem_needed.2 ⟨zm, hz'.1, needs_iff.2 fun y hy hby => ?_⟩) hz'.2.1
        obtain ⟨b1, b2, b3⟩ := beats_iff.1 hby
        have ys : y.p.s = s := b1.trans hz'.2.1
        have hle := x3 y hy ys
        rcases b3 with h | ⟨h, h'⟩
        · rw [hz'.2.2] at h; omega
        · have yq : y.p.q = x.p.q := h.trans hz'.2.2
          have yk : y.b = k := Classical.byContradiction fun c => hno y hy c ys yq
          have hi : y.i < z.i := h'.resolve_left (fun c => c (yk.trans hz'.1.symm))
          rw [he] at hy ha
          rcases List.mem_append.1 hy with hm | hm
          · have := hpre y hm
            simp [yk, ys, yq] at this
          · rcases List.mem_cons.1 hm with hm | hm
            · rw [hm] at hi; omega
            · have := (List.pairwise_cons.1 (List.pairwise_append.1 ha).2.1).1 y hm
              have e := yk.trans hz'.1.symm
              rcases this with h | h <;> omega
  · rintro ⟨y, hy, hq⟩ z hz hs
    obtain ⟨y1, y2, _⟩ := best_some _ s y hy
    obtain ⟨y3, y4⟩ := List.mem_filter.1 y1
    have y5 : y.b ≠ k := by simpa using y4
    obtain ⟨z1, z2, z3⟩ := mem_needed.1 hz
    refine needs_iff.1 z3 y y3 (beats_iff.2 ⟨y2.trans hs.symm, fun h => y5 (h.1.trans z2), ?_⟩)
    have := x3 z z1 hs
    by_cases e : U z.p.q < U y.p.q
    · exact .inl e
    · refine .inr ⟨U_inj ?_, .inl (fun c => y5 (c.trans z2))⟩
      rw [hq] at e ⊢
      omega

/-! ### A block that is struck -/
theorem bk0_kinds (i : Nat) : nm bk0.kinds i = 0 := by
  unfold nm bk0
  simp only [List.getD_eq_getElem?_getD]
  by_cases h : i < 8
  · rw [List.getElem?_replicate, if_pos h]; rfl
  · rw [List.getElem?_eq_none (by simp; omega)]; rfl
theorem bkN_set {bs : List BlkM} {k b : Nat} {x : BlkM} (h : k < bs.length) : bkN (bs.set k x) b = if b = k then x else bkN bs b := by
  unfold bkN
  rw [List.getD_eq_getElem?_getD, List.getD_eq_getElem?_getD]
  by_cases e : b = k
  · subst e; rw [if_pos rfl, List.getElem?_set_self h]; rfl
  · rw [if_neg e, List.getElem?_set_ne (Ne.symm e)]
theorem cnt_set {bs : List BlkM} {k : Nat} (h : k < bs.length) : cnt (bs.set k bk0) = (cnt bs).filter fun x => decide (x.b ≠ (k : Int)) := by
  unfold cnt cntU
  rw [List.length_set, List.filter_flatMap]
  rw [List.flatMap_def, List.flatMap_def]
  congr 1
  apply List.map_congr_left
  intro b _
  by_cases e : b = k
  · subst e
    rw [List.filter_eq_nil_iff.2 (fun x hx => by obtain ⟨i, _, _, rfl⟩ := mem_cntB.1 hx; simp)]
    refine List.eq_nil_iff_forall_not_mem.2 fun x hx => ?_
    obtain ⟨i, _, h1, _⟩ := mem_cntB.1 hx
    rw [bkN_set h, if_pos rfl, bk0_kinds] at h1
    omega
  · rw [List.filter_eq_self.2 (fun x hx => by obtain ⟨i, _, _, rfl⟩ := mem_cntB.1 hx; exact decide_eq_true (fun c => e (Int.ofNat.inj c)))]
    unfold cntB
    rw [bkN_set h, if_neg e]

/-! ### A block more, with one page -/
def blk1 (s q : BitVec 32) : BlkM := ⟨1, 0#32, [1, 0, 0, 0, 0, 0, 0, 0], [⟨s, q, false, 0#32, 0#32, 0#32, 0#32⟩, pg0, pg0, pg0, pg0, pg0, pg0, pg0]⟩
theorem blk1_ok (s q : BitVec 32) : BlkOk (blk1 s q) := ⟨rfl, rfl⟩
theorem bkN_left {bs cs : List BlkM} {b : Nat} (h : b < bs.length) : bkN (bs ++ cs) b = bkN bs b := by
  unfold bkN
  rw [List.getD_eq_getElem?_getD, List.getD_eq_getElem?_getD, List.getElem?_append_left h]
theorem bkN_last (bs : List BlkM) (c : BlkM) : bkN (bs ++ [c]) bs.length = c := by
  unfold bkN
  rw [List.getD_eq_getElem?_getD, List.getElem?_append_right (Nat.le_refl _), Nat.sub_self]
  rfl
theorem cnt_more (bs : List BlkM) (s q : BitVec 32) : cnt (bs ++ [blk1 s q]) = cnt bs ++ [⟨bs.length, 0, ⟨s, q, false, 0#32, 0#32, 0#32, 0#32⟩⟩] := by
  unfold cnt
  rw [List.length_append, List.length_singleton, cntU_succ]
  congr 1
  · unfold cntU
    rw [List.flatMap_def, List.flatMap_def]
    congr 1
    apply List.map_congr_left
    intro b hb
    unfold cntB
    rw [bkN_left (by simpa using hb)]
  · unfold cntB
    rw [bkN_last]
    rfl
/-- With one page more of a greater number: its sector is that. -/
theorem best_more {all : List PlM} {x : PlM} (h : U (lTop all) < U x.p.q) : best (all ++ [x]) x.p.s = some x := by
  rw [best_snoc]
  unfold bestS
  rw [if_pos rfl]
  cases hb : best all x.p.s with
  | none => rfl
  | some z =>
    have := top_ge all z (best_some all _ z hb).1
    simp only
    rw [if_pos (by omega)]
theorem best_other {all : List PlM} {x : PlM} {s : BitVec 32} (h : s ≠ x.p.s) : best (all ++ [x]) s = best all s := by
  rw [best_snoc]
  unfold bestS
  rw [if_neg (Ne.symm h)]

/-! ### None -/
theorem cnt_none {bs : List BlkM} (h : ∀ b i, b < bs.length → i < 8 → nm (bkN bs b).kinds i ≠ 1) : cnt bs = [] := by
  refine List.eq_nil_iff_forall_not_mem.2 fun x hx => ?_
  obtain ⟨b, i, h1, h2, h3, _⟩ := mem_cnt.1 hx
  exact h b i h1 h2 h3
theorem needed_none {bs : List BlkM} {k : Int} (h : k < 0 ∨ (bs.length : Int) ≤ k) : lNeeded (cnt bs) k = [] := by
  refine List.eq_nil_iff_forall_not_mem.2 fun x hx => ?_
  obtain ⟨h1, h2, _⟩ := mem_needed.1 hx
  obtain ⟨b, i, h3, _, _, rfl⟩ := mem_cnt.1 h1
  have : (b : Int) = k := h2
  omega
theorem needed_len (all : List PlM) (k : Int) : (lNeeded all k).length ≤ all.length := List.length_filter_le _ _
end Go.Proofs.Ytfpfcmgcfbkolaa
