/- What layer decode's statements say, in plain mathematics: words come back, fields are within bounds, another register changes its bits alone, each name has a word. -/
import Derived.Test.YtdloaeifiohefaaDoorDecU
namespace Go.Proofs.YtdloaeifiohefaaDoor.Bm
open Go Go.RowKit

theorem wordBack {x : BitVec 32} (h : isM x = true) : encB (wordM x) = true ∧ encM (wordM x) = x := by
  obtain ⟨n, hn, hr, e⟩ := is_some h
  have hp : pk (wordM x) = x := by rw [e]; exact pk_unpk hr
  have hb : encB (wordM x) = true := by
    unfold encB
    rw [hp, e]
    have : named (unpk n x).name = true := by
      show (decide (1 ≤ (n : Int)) && decide ((n : Int) ≤ 69)) = true
      rw [decide_eq_true (by omega), decide_eq_true (by omega)]
      rfl
    simp [this]
  refine ⟨hb, ?_⟩
  unfold encM
  rw [hb, hp]
  rfl
theorem opBack {o : OpM} (h : encB o = true) : wordM (encM o) = o ∧ isM (encM o) = true := by
  have he : encM o = pk o := by unfold encM; rw [h]; rfl
  simp only [encB, Bool.and_eq_true, decide_eq_true_eq] at h
  obtain ⟨n, hn, hr, e⟩ := word_named (w := pk o) (by rw [h.2]; exact h.1)
  rw [he]
  exact ⟨h.2, (word_of hn hr).2⟩
theorem enc_no {o : OpM} (h : encB o = false) : encM o = 0#32 := by unfold encM; rw [h]; rfl
theorem word_inj {x y : BitVec 32} (hx : isM x = true) (hy : isM y = true) : decide (wordM x = wordM y) = decide (x = y) := by
  apply decide_eq_decide.2
  constructor
  · intro e
    rw [← (wordBack hx).2, ← (wordBack hy).2, e]
  · intro e; rw [e]
theorem enc_inj {o p : OpM} (ho : encB o = true) (hp : encB p = true) : (encM o == encM p) = decide (o = p) := by
  rw [Bool.eq_iff_iff, beq_iff_eq, decide_eq_true_eq]
  constructor
  · intro e
    rw [← (opBack ho).1, ← (opBack hp).1, e]
  · intro e; rw [e]
theorem is_not {x : BitVec 32} (h : isM x = false) : wordM x = op0 := by
  cases e : findW x with
  | none => exact (word_none e).1
  | some n => rw [(word_of (find_some e).1 (find_some e).2).2] at h; cases h

/-! ### Fields -/
theorem fm_jal : fmO 3 = 1 := rfl
theorem fm_br : ∀ n, n < 70 → 5 ≤ n → n ≤ 10 → fmO n = 3 := by decide
theorem fm_up : ∀ n, n < 70 → (n = 1 ∨ n = 2) → fmO n = 0 := by decide
theorem fm_sh : ∀ n, n < 70 → 25 ≤ n → n ≤ 27 → fmO n = 6 := by decide
theorem fm_nu : ∀ n, n < 70 → (n = 4 ∨ (11 ≤ n ∧ n ≤ 24)) → fmO n = 2 ∨ fmO n = 4 := by decide
theorem fm_lo : ∀ n, n < 70 → 28 ≤ n → 5 ≤ fmO n := by decide

/-! ### Other registers -/
theorem wr_has : ∀ n : Nat, n < 70 → wrB n = true → rdB (fmO n) = true := by decide
theorem uw_lt {k : Int} (h0 : 0 ≤ k) (h1 : k < 32) : U (uw k) = k := by
  unfold uw U
  rw [BitVec.toNat_ofInt]
  omega
theorem low5 {k : Int} (h0 : 0 ≤ k) (h1 : k < 32) : fieldB (uw k) 0 5 = uw k := by
  have hb : uw k &&& lowB 5 = uw k := by
    apply BitVec.eq_of_toNat_eq
    rw [BitVec.toNat_and, show (lowB 5).toNat = 2 ^ 5 - 1 from by decide, Nat.and_two_pow_sub_one_eq_mod]
    have := uw_lt h0 h1
    unfold U at this
    omega
  unfold fieldB
  rw [show shiftB (uw k) (-0) = uw k from by unfold shiftB; rw [if_neg (by omega)]; simp, hb]
theorem reg_put {x : BitVec 32} {n : Nat} (hn : 1 ≤ n ∧ n ≤ 69) (hr : rowB n x = true) {k : Int} (h0 : 0 ≤ k) (h1 : k < 32) (hd : rdB (fmO n) = true) :
    encB { unpk n x with rd := k } = true ∧ encM { unpk n x with rd := k } = putB x 7 5 (uw k) := by
  obtain ⟨m, e0, e1, e2, e3⟩ := set0 (fmO_lt n) hd x (uw k)
  have hr' : rowB n (putB x 7 5 (uw k)) = true := by unfold rowB at hr ⊢; rw [m]; exact hr
  have hw := word_of hn hr'
  have he : wordM (putB x 7 5 (uw k)) = { unpk n x with rd := k } := by
    rw [hw.1]
    unfold unpk
    rw [e0, e1, e2, e3, low5 h0 h1, uw_lt h0 h1]
  have := wordBack hw.2
  rw [he] at this
  exact this
theorem reg1_put {x : BitVec 32} {n : Nat} (hn : 1 ≤ n ∧ n ≤ 69) (hr : rowB n x = true) {k : Int} (h0 : 0 ≤ k) (h1 : k < 32) (hne : k ≠ (unpk n x).rs1) (hb : encB { unpk n x with rs1 := k } = true) :
    encM { unpk n x with rs1 := k } = putB x 15 5 (uw k) := by
  by_cases hd : r1B (fmO n) = true
  · obtain ⟨m, e0, e1, e2, e3⟩ := set1 (fmO_lt n) hd x (uw k)
    have hr' : rowB n (putB x 15 5 (uw k)) = true := by unfold rowB at hr ⊢; rw [m]; exact hr
    have hw := word_of hn hr'
    have he : wordM (putB x 15 5 (uw k)) = { unpk n x with rs1 := k } := by
      rw [hw.1]
      unfold unpk
      rw [e0, e1, e2, e3, low5 h0 h1, uw_lt h0 h1]
    have := wordBack hw.2
    rw [he] at this
    exact this.2
  · have hd' : r1B (fmO n) = false := by simpa using hd
    exfalso
    simp only [encB, Bool.and_eq_true, decide_eq_true_eq] at hb
    obtain ⟨n', hn', hr', e⟩ := word_named (w := pk { unpk n x with rs1 := k }) (by rw [hb.2]; exact hb.1)
    rw [hb.2] at e
    have hnn : n' = n := by
      have := congrArg OpM.name e
      simp only [unpk] at this
      omega
    subst hnn
    have h2 := congrArg OpM.rs1 e
    have z : ∀ y, unF (fmO n') y 1 = 0#32 := fun y => by rw [(regs_is (fmO_lt n') y).2.1, hd']; rfl
    simp only [unpk, z] at h2 hne
    exact hne h2
theorem reg_same {x : BitVec 32} (h : isM x = true) {k : Int} (e : k = (wordM x).rs1) : encB { wordM x with rs1 := k } = true ∧ encM { wordM x with rs1 := k } = x := by
  rw [e]
  exact wordBack h
theorem put7_rest (x : BitVec 32) (k : BitVec 32) : putB x 7 5 k &&& ~~~3968#32 = x &&& ~~~3968#32 := by
  refine gb_ext32 ?_
  simp [gb_put, gb_and, gb_lit]
theorem put15_rest (x : BitVec 32) (k : BitVec 32) : putB x 15 5 k &&& ~~~1015808#32 = x &&& ~~~1015808#32 := by
  refine gb_ext32 ?_
  simp [gb_put, gb_and, gb_lit]
theorem field_shr (x : BitVec 32) (a : Nat) : fieldB x a 5 = (x >>> a) &&& 31#32 := by
  unfold fieldB
  have e : shiftB x (-(a : Int)) = x >>> a := by
    unfold shiftB
    by_cases h : (a : Int) = 0
    · have : a = 0 := by omega
      subst this
      simp
    · rw [if_pos (by omega)]
      congr 1
      omega
  rw [e]
  rfl
theorem put_field (x : BitVec 32) (a : Nat) (h : a ≤ 27) (k : BitVec 32) : fieldB (putB x a 5 k) a 5 = fieldB k 0 5 := by
  apply gb_ext; intro i h0 h1
  rw [gb_field, gb_field, gb_put]
  by_cases hi : i < 5
  · rw [if_pos (by omega), show (a : Int) + i - a = i by omega, show (0 : Int) + i = i by omega]
  · have : ¬ (0 ≤ i ∧ i < 32 ∧ i < 5) := fun k => hi k.2.2
    simp only [this, decide_false, Bool.false_and]
theorem put7_reg (x : BitVec 32) {k : Int} (h0 : 0 ≤ k) (h1 : k < 32) : (putB x 7 5 (uw k) >>> 7) &&& 31#32 = uw k := by
  have := put_field x 7 (by omega) (uw k)
  rw [field_shr, low5 h0 h1] at this
  exact this
theorem put15_reg (x : BitVec 32) {k : Int} (h0 : 0 ≤ k) (h1 : k < 32) : (putB x 15 5 (uw k) >>> 15) &&& 31#32 = uw k := by
  have := put_field x 15 (by omega) (uw k)
  rw [field_shr, low5 h0 h1] at this
  exact this

/-! ### Rows -/
theorem zero_enc : ∀ n : Nat, n < 69 → encB ⟨(n : Int) + 1, 0, 0, 0, 0#32⟩ = true := by decide +kernel
def e3B (n : Int) : Bool := encB ⟨n, 1, 1, 1, 0#32⟩ || (encB ⟨n, 1, 1, 0, 0#32⟩ || encB ⟨n, 1, 0, 0, 0#32⟩)
theorem e3_wr : ∀ n : Nat, n < 69 → (!decide ((n : Int) + 1 = 57) && e3B ((n : Int) + 1)) = wrB ((n : Int) + 1) := by decide +kernel
theorem rd_wr : ∀ f, f < 13 → ((ptsOf f).any fun p => p.f == 0) = rdB f := by decide
theorem rd_has {o : OpM} (h : encB o = true) (h57 : o.name ≠ 57) (hd : o.rd ≠ 0) : wrB o.name = true := by
  simp only [encB, Bool.and_eq_true, decide_eq_true_eq] at h
  obtain ⟨n, hn, hr, e⟩ := word_named (w := pk o) (by rw [h.2]; exact h.1)
  rw [h.2] at e
  have hname : o.name = n := by rw [e]; rfl
  unfold wrB
  rw [h.1, hname, rd_wr _ (fmO_lt _)]
  rw [hname] at h57
  have : rdB (fmO n) = true := by
    cases hb : rdB (fmO n)
    · exfalso
      apply hd
      rw [e]
      show U (unF (fmO n) _ 0) = 0
      rw [(regs_is (fmO_lt n) _).1, hb]
      rfl
    · rfl
  simp [h57, this]
end Go.Proofs.YtdloaeifiohefaaDoor.Bm
