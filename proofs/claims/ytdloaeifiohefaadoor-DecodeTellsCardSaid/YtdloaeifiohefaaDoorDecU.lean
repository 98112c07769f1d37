/- Layer decode's document: the word that says an op, and what writes a register. -/
import Derived.Test.YtdloaeifiohefaaDoorDecQ
import Derived.Test.YtdloaeifiohefaaDoorDecS
namespace Go.Proofs.YtdloaeifiohefaaDoor
open Go.RowKit Bm

namespace Bm
theorem small_of {o : OpM} (h : encB o = true) : (0 ≤ o.rd ∧ o.rd < 32) ∧ (0 ≤ o.rs1 ∧ o.rs1 < 32) ∧ (0 ≤ o.rs2 ∧ o.rs2 < 32) := by
  simp only [encB, Bool.and_eq_true, decide_eq_true_eq] at h
  obtain ⟨h1, h2⟩ := h
  obtain ⟨n, hn, _, e⟩ := word_named (w := pk o) (by rw [h2]; exact h1)
  rw [h2] at e
  obtain ⟨a, b, c⟩ := reg_lt (fmO_lt n) (pk o)
  have a0 := U_nonneg (unF (fmO n) (pk o) 0)
  have b0 := U_nonneg (unF (fmO n) (pk o) 1)
  have c0 := U_nonneg (unF (fmO n) (pk o) 2)
  rw [e]
  exact ⟨⟨a0, a⟩, ⟨b0, b⟩, ⟨c0, c⟩⟩
/-- What the document puts together. -/
def candM (o : OpM) : BitVec 32 := rCand (fmO o.name.toNat) (patO o.name.toNat) (uw o.rd) (uw o.rs1) (uw o.rs2) o.imm
theorem cand_enc {o : OpM} (hn : named o.name = true) : (isM (candM o) = true ∧ wordM (candM o) = o) ↔ encB o = true := by
  constructor
  · rintro ⟨h1, h2⟩
    generalize candM o = c at h1 h2
    obtain ⟨n, hn', hr, e⟩ := is_some h1
    rw [h2] at e
    have hx : pk o = c := by rw [e]; exact pk_unpk hr
    unfold encB
    rw [hn, hx, h2]
    simp
  · intro h
    simp only [encB, Bool.and_eq_true, decide_eq_true_eq] at h
    obtain ⟨n, hn', hr, e⟩ := word_named (w := pk o) (by rw [h.2]; exact h.1)
    rw [h.2] at e
    have hc : candM o = pk o := by
      generalize pk o = x at hr e
      have hm : patO n = x &&& mkO (fmO n) := by simpa [rowB] using Eq.symm (beq_iff_eq.1 hr)
      rw [e]
      show rCand (fmO n) (patO n) (uw (U (unF (fmO n) x 0))) (uw (U (unF (fmO n) x 1))) (uw (U (unF (fmO n) x 2))) (signB (unF (fmO n) x 3) (sgO (fmO n))) = x
      rw [uw_U, uw_U, uw_U, hm]
      exact cand_is (fmO_lt n) x
    rw [hc]
    have := word_of hn' hr
    exact ⟨this.2, h.2⟩
theorem cand_pk {o : OpM} (h : encB o = true) (hn : named o.name = true) : candM o = pk o := by
  obtain ⟨h1, h2⟩ := (cand_enc hn).2 h
  obtain ⟨n, hn', hr, e⟩ := is_some h1
  rw [h2] at e
  generalize candM o = c at hr e
  rw [e]
  exact (pk_unpk hr).symm
end Bm

set_option maxHeartbeats 4000000 in
theorem rencode_any (a rd r1 r2 : Int) (i : BitVec 32) (w : World) :
    Calls Tryd.prog 13 #[.agg #[.int .i64 a, .int .i64 rd, .int .i64 r1, .int .i64 r2, .int .u32 (U i)]] w fun e w' => e = .returned (.tuple #[.int .u32 (U (encM ⟨a, rd, r1, r2, i⟩)), .bool (encB ⟨a, rd, r1, r2, i⟩)]) ∧ Below w.heap.size w w' := by
  obtain ⟨B, hB⟩ : ∃ B, B = w.heap.size := ⟨_, rfl⟩
  have HBV := Lib.hid hB
  have AB0 := Lib.hid (At.news w 28 (opC ⟨a, rd, r1, r2, i⟩))
  have LB0 : Hid (∀ o, Below w.heap.size w (w.alloc o)) := Lib.hid fun o => (Below.refl _ w).alloc (Nat.le_refl _) _
  have HSZ : Hid (∀ o, (w.alloc o).heap.size = B + 1) := Lib.hid (fun o => by rw [hB]; simp)
  rw [← hB] at AB0
  have bw : w.heap.size = B := hB.symm
  have HS0 := Lib.hid (fun W => small_any rd W)
  have HS1 := Lib.hid (fun W => small_any r1 W)
  have HS2 := Lib.hid (fun W => small_any r2 W)
  by_cases hn : named a = true
  · obtain ⟨k, rfl⟩ : ∃ k : Nat, a = (k : Int) + 1 := ⟨(a - 1).toNat, by simp [named] at hn; omega⟩
    have hk : k < 69 := by simp [named] at hn; omega
    have n1 : ((k : Int) + 1 < 1) = False := eq_false (by omega)
    have n2 : ((69 : Int) < (k : Int) + 1) = False := eq_false (by omega)
    by_cases hs : (0 ≤ rd ∧ rd < 32) ∧ (0 ≤ r1 ∧ r1 < 32) ∧ (0 ≤ r2 ∧ r2 < 32)
    · rw [decide_eq_true hs.1] at HS0
      rw [decide_eq_true hs.2.1] at HS1
      rw [decide_eq_true hs.2.2] at HS2
      obtain ⟨f, hfe⟩ : ∃ f, f = fmO (k + 1) := ⟨_, rfl⟩
      have hf : f < 13 := by rw [hfe]; exact fmO_lt _
      obtain ⟨b0, hb0⟩ : ∃ b, b = rdB f := ⟨_, rfl⟩
      obtain ⟨b1, hb1⟩ : ∃ b, b = r1B f := ⟨_, rfl⟩
      obtain ⟨b2, hb2⟩ : ∃ b, b = r2B f := ⟨_, rfl⟩
      have HCC : Hid (candM ⟨(k : Int) + 1, rd, r1, r2, i⟩ = addIf b2 (addIf b1 (addIf b0 (patO (k + 1) + rNum f i) (ptB (uw rd) 0 5 7)) (ptB (uw r1) 0 5 15)) (ptB (uw r2) 0 5 20)) := Lib.hid (by
        unfold candM
        show rCand (fmO ((k : Int) + 1).toNat) (patO ((k : Int) + 1).toNat) _ _ _ _ = _
        rw [show ((k : Int) + 1).toNat = k + 1 by omega, ← hfe, hb0, hb1, hb2]
        rfl)
      have HIS : Hid (isM (candM ⟨(k : Int) + 1, rd, r1, r2, i⟩) = false ∨ (isM (candM ⟨(k : Int) + 1, rd, r1, r2, i⟩) = true ∧ wordM (candM ⟨(k : Int) + 1, rd, r1, r2, i⟩) ≠ ⟨(k : Int) + 1, rd, r1, r2, i⟩) ∨ (isM (candM ⟨(k : Int) + 1, rd, r1, r2, i⟩) = true ∧ wordM (candM ⟨(k : Int) + 1, rd, r1, r2, i⟩) = ⟨(k : Int) + 1, rd, r1, r2, i⟩)) := Lib.hid (by
        cases isM (candM ⟨(k : Int) + 1, rd, r1, r2, i⟩)
        · exact .inl rfl
        · by_cases h : wordM (candM ⟨(k : Int) + 1, rd, r1, r2, i⟩) = ⟨(k : Int) + 1, rd, r1, r2, i⟩
          · exact .inr (.inr ⟨rfl, h⟩)
          · exact .inr (.inl ⟨rfl, h⟩))
      have HYES : Hid (isM (candM ⟨(k : Int) + 1, rd, r1, r2, i⟩) = true → wordM (candM ⟨(k : Int) + 1, rd, r1, r2, i⟩) = ⟨(k : Int) + 1, rd, r1, r2, i⟩ → encB ⟨(k : Int) + 1, rd, r1, r2, i⟩ = true ∧ encM ⟨(k : Int) + 1, rd, r1, r2, i⟩ = candM ⟨(k : Int) + 1, rd, r1, r2, i⟩) := Lib.hid (fun h1 h2 => by
        have h := (cand_enc (o := ⟨(k : Int) + 1, rd, r1, r2, i⟩) hn).1 ⟨h1, h2⟩
        exact ⟨h, by unfold encM; rw [h, cand_pk h hn]; rfl⟩)
      have HNO : Hid (¬ (isM (candM ⟨(k : Int) + 1, rd, r1, r2, i⟩) = true ∧ wordM (candM ⟨(k : Int) + 1, rd, r1, r2, i⟩) = ⟨(k : Int) + 1, rd, r1, r2, i⟩) → encB ⟨(k : Int) + 1, rd, r1, r2, i⟩ = false ∧ encM ⟨(k : Int) + 1, rd, r1, r2, i⟩ = 0#32) := Lib.hid (fun h1 => by
        have h : encB ⟨(k : Int) + 1, rd, r1, r2, i⟩ = false := by
          cases h : encB ⟨(k : Int) + 1, rd, r1, r2, i⟩
          · rfl
          · exact absurd ((cand_enc (o := ⟨(k : Int) + 1, rd, r1, r2, i⟩) hn).2 h) h1
        exact ⟨h, by unfold encM; rw [h]; rfl⟩)
      have hfs : k < formS.size := by rw [formS_size]; exact hk
      have hfm : ((formS[k].toNat : Nat) : Int) = letO f := by rw [byN_eq hfs, forms_at k hk, hfe]
      have j1 : (k : Int) < (formS.size : Int) := by omega
      have k0 : (0 : Int) ≤ (k : Int) := by omega
      have k1 : (k : Int) < 69 := by omega
      have kw : IntKind.i64.wrap ((k : Int) + 1 - 1) = (k : Int) := by rw [IntKind.wrap_i64]; omega
      have kw2 : IntKind.i64.wrap (k : Int) = (k : Int) := by rw [IntKind.wrap_i64]; omega
      have HPA : Hid ((Us patT)[k]? = some (.int .u32 (U (patO (k + 1))))) := Lib.hid (by rw [Us_get _ _ hk, patT_wd k hk])
      have HNM := Lib.hid (rnum_any hf i)
      have HH0 : Hid (∀ W, Calls Tryd.prog 25 #[.string ⟨#[85, 74, 73, 82, 72, 65, 76, 70, 67]⟩, .int .u8 (letO f)] W fun e w' => e = .returned (.bool b0) ∧ w' = W) := Lib.hid (fun W => by rw [hb0, ← has_rd f hf]; exact has_any strRd (by decide) (letO f) W)
      have HH1 : Hid (∀ W, Calls Tryd.prog 25 #[.string ⟨#[73, 66, 83, 82, 72, 65, 76, 70, 86, 67]⟩, .int .u8 (letO f)] W fun e w' => e = .returned (.bool b1) ∧ w' = W) := Lib.hid (fun W => by rw [hb1, ← has_r1 f hf]; exact has_any strR1 (by decide) (letO f) W)
      have HH2 : Hid (∀ W, Calls Tryd.prog 25 #[.string ⟨#[66, 83, 82, 65, 86]⟩, .int .u8 (letO f)] W fun e w' => e = .returned (.bool b2) ∧ w' = W) := Lib.hid (fun W => by rw [hb2, ← has_r2 f hf]; exact has_any strR2 (by decide) (letO f) W)
      have F0 := Lib.hid (fun W => part_any (uw rd) 0 5 7 W (by omega) (by omega))
      have F1 := Lib.hid (fun W => part_any (uw r1) 0 5 15 W (by omega) (by omega))
      have F2 := Lib.hid (fun W => part_any (uw r2) 0 5 20 W (by omega) (by omega))
      have u0 := wrap_uw rd
      have u1 := wrap_uw r1
      have u2 := wrap_uw r2
      rw [HCC.out] at HIS HYES HNO
      have HWD := Lib.hid (fun W => rword_any (addIf b2 (addIf b1 (addIf b0 (patO (k + 1) + rNum f i) (ptB (uw rd) 0 5 7)) (ptB (uw r1) 0 5 15)) (ptB (uw r2) 0 5 20)) W)
      obtain ⟨o, ho⟩ : ∃ o, o = (⟨(k : Int) + 1, rd, r1, r2, i⟩ : OpM) := ⟨_, rfl⟩
      have HO := Lib.hid ho
      rw [← ho] at HIS HYES HNO AB0 ⊢
      clear hb0 hb1 hb2 hfe hf hs hn hk HCC hB ho
      go_enter Tryd.func13, Tryd.ntmps13
      go_upto_region 4 with (first
        | (go_at_call 20; (with_reducible refine (patterns_any _).mono ?_); rintro e w2 ⟨rfl, hA, hb⟩; rw [HSZ.out] at hA; have AP2 := Lib.hid hA; have AB2 := Lib.hid (at_keep AB0.out (show Below (w.alloc (.cells (opC o).toArray 28)).heap.size _ w2 by rw [HO.out]; exact hb)); have LB2 := Lib.hid ((LB0.out _).trans (hb.mono (LB0.out _).size)); have cb0 : w2.cell? ⟨B, 0, none⟩ = some (.int .i64 ((k : Int) + 1)) := (AB2.out.cell 0).trans (by rw [HO.out]; rfl); have cb1 : w2.cell? ⟨B, 1, none⟩ = some (.int .i64 rd) := (AB2.out.cell 1).trans (by rw [HO.out]; rfl); have cb2 : w2.cell? ⟨B, 2, none⟩ = some (.int .i64 r1) := (AB2.out.cell 2).trans (by rw [HO.out]; rfl); have cb3 : w2.cell? ⟨B, 3, none⟩ = some (.int .i64 r2) := (AB2.out.cell 3).trans (by rw [HO.out]; rfl); clear hA hb)
        | (go_at_call 29; (with_reducible refine (HS0.out _).mono ?_); rintro e w5 ⟨rfl, hq5⟩; replace hq5 := hq5.symm; subst hq5)
        | (go_at_call 29; (with_reducible refine (HS1.out _).mono ?_); rintro e w5 ⟨rfl, hq5⟩; replace hq5 := hq5.symm; subst hq5)
        | (go_at_call 29; (with_reducible refine (HS2.out _).mono ?_); rintro e w5 ⟨rfl, hq5⟩; replace hq5 := hq5.symm; subst hq5))
      have HC4 : Hid (w2.cell? ⟨B, 4, none⟩ = some (.int .u32 (U i))) := Lib.hid ((AB2.out.cell 4).trans (by rw [HO.out]; rfl))
      have SD : w2.drew.cell? ⟨B, 0, none⟩ = some (.int .i64 ((k : Int) + 1)) := cb0
      refine wp_region_held_drew (S := fun W => W.cell? ⟨B, 0, none⟩ = some (.int .i64 ((k : Int) + 1))) (by kernel_rfl) SD ?_
      intro S0
      replace S0 : w2.drew.cell? ⟨B, 0, none⟩ = some (.int .i64 ((k : Int) + 1)) := SD
      refine aT 1 (.pointer (some ⟨B, 0, none⟩)) rfl ?_; simp only [see1, see2, see3, Act.put, see4, see5, see6]
      refine aT 2 (.int .i64 ((k : Int) + 1)) rfl ?_; simp only [see1, see2, see3, Act.put, see4, see5, see6]
      refine aT 3 (.int .i64 k) rfl ?_; simp only [see1, see2, see3, Act.put, see4, see5, see6]
      refine wpAnyH_all (rs := [0]) (by kernel_rfl) (by simp) ?_
      intro i0 hi0
      obtain rfl : i0 = 0 := by simpa using hi0
      refine op_goes rfl (by rfl) ?_
      go_simp
      refine (forms_any _).mono ?_
      rintro e w9 ⟨rfl, rfl⟩
      dsimp only
      refine ⟨S0, ?_⟩
      refine aT 4 (.int .u8 (letO f)) rfl ?_; simp only [see1, see2, see3, Act.put, see4, see5, see6]
      refine aT 5 (.int .u8 (letO f)) rfl ?_; simp only [see1, see2, see3, Act.put, see4, see5, see6]
      refine wpAnyH_done (by kernel_rfl) ?_ _
      go_upto_region 5 with (fail)
      have SD2 : w2.drew.drew.cell? ⟨B, 0, none⟩ = some (.int .i64 ((k : Int) + 1)) ∧ w2.drew.drew.cell? ⟨B, 4, none⟩ = some (.int .u32 (U i)) ∧ At w2.drew.drew (B + 1) 22 (Us patT) := ⟨cb0, HC4.out, AP2.out.drew.drew⟩
      refine wp_region_held_drew (S := fun W => W.cell? ⟨B, 0, none⟩ = some (.int .i64 ((k : Int) + 1)) ∧ W.cell? ⟨B, 4, none⟩ = some (.int .u32 (U i)) ∧ At W (B + 1) 22 (Us patT)) (by kernel_rfl) SD2 ?_
      intro S1
      replace S1 : w2.drew.drew.cell? ⟨B, 0, none⟩ = some (.int .i64 ((k : Int) + 1)) ∧ w2.drew.drew.cell? ⟨B, 4, none⟩ = some (.int .u32 (U i)) ∧ At w2.drew.drew (B + 1) 22 (Us patT) := SD2
      refine aT 0 (.slice (some ⟨B + 1, 0, none⟩) 69 69) rfl ?_; simp only [see1, see2, Act.put, see4, see5, see6]
      refine aT 1 (.pointer (some ⟨B, 0, none⟩)) rfl ?_; simp only [see1, see2, see3, Act.put, see4, see5, see6]
      refine aT 2 (.int .i64 ((k : Int) + 1)) rfl ?_ (h2 := fun W hS => by have c9 : W.cell? ⟨B, 0, none⟩ = some (.int .i64 ((k : Int) + 1)) := hS.1; go_simp; done); simp only [see1, see2, see3, Act.put, see4, see5, see6]
      refine aT 3 (.int .i64 k) rfl ?_; simp only [see1, see2, see3, Act.put, see4, see5, see6]
      refine aT 4 (.pointer (some ⟨B + 1, k, none⟩)) rfl ?_; simp only [see1, see2, see3, Act.put, see4, see5, see6]
      refine aT 5 (.int .u32 (U (patO (k + 1)))) rfl ?_ (h2 := fun W hS => by have c9 : W.cell? ⟨B + 1, k, none⟩ = some (.int .u32 (U (patO (k + 1)))) := (hS.2.2.cell k).trans HPA.out; go_simp; done); simp only [see1, see2, see3, Act.put, see4, see5, see6]
      refine aT 6 (.pointer (some ⟨B, 4, none⟩)) rfl ?_; simp only [see1, see2, see3, Act.put, see4, see5, see6]
      refine aT 7 (.int .u32 (U i)) rfl ?_ (h2 := fun W hS => by have c9 : W.cell? ⟨B, 4, none⟩ = some (.int .u32 (U i)) := hS.2.1; go_simp; done); simp only [see1, see2, see3, Act.put, see4, see5, see6]
      refine aT 8 (.int .u8 (letO f)) rfl ?_; simp only [see1, see2, see3, Act.put, see4, see5, see6]
      refine wpAnyH_all (rs := [9]) (by kernel_rfl) (by simp) ?_
      intro i9 hi9
      obtain rfl : i9 = 9 := by simpa using hi9
      refine op_goes rfl (by rfl) ?_
      go_simp
      refine (HNM.out _).mono ?_
      rintro e w9 ⟨rfl, rfl⟩
      dsimp only
      refine ⟨S1, ?_⟩
      refine aT 10 (.int .u32 (U (patO (k + 1) + rNum f i))) rfl ?_; simp only [see1, see2, see3, Act.put, see4, see5, see6]
      refine aT 11 (.int .u32 (U (patO (k + 1) + rNum f i))) rfl ?_; simp only [see1, see2, see3, Act.put, see4, see5, see6]
      refine wpAnyH_done (by kernel_rfl) ?_ _
      have AB5 := Lib.hid AB2.out.drew.drew
      have LB5 := Lib.hid LB2.out.drew.drew
      have d1 : w2.drew.drew.cell? ⟨B, 1, none⟩ = some (.int .i64 rd) := cb1
      have d2 : w2.drew.drew.cell? ⟨B, 2, none⟩ = some (.int .i64 r1) := cb2
      have d3 : w2.drew.drew.cell? ⟨B, 3, none⟩ = some (.int .i64 r2) := cb3
      obtain ⟨W5, hW5⟩ : ∃ W5, W5 = w2.drew.drew := ⟨_, rfl⟩
      rw [← hW5] at AB5 LB5 d1 d2 d3 ⊢
      clear hW5 S0 S1 SD SD2 cb0 cb1 cb2 cb3 AB2 LB2 AP2
      cases b0 <;> cases b1 <;> cases b2
      all_goals
        go_upto_region 13 with (first
          | (go_at_call 25; (with_reducible refine (HH0.out _).mono ?_); rintro e w5 ⟨rfl, hq5⟩; replace hq5 := hq5.symm; subst hq5)
          | (go_at_call 25; (with_reducible refine (HH1.out _).mono ?_); rintro e w5 ⟨rfl, hq5⟩; replace hq5 := hq5.symm; subst hq5)
          | (go_at_call 25; (with_reducible refine (HH2.out _).mono ?_); rintro e w5 ⟨rfl, hq5⟩; replace hq5 := hq5.symm; subst hq5)
          | (go_at_call 31; (with_reducible refine (F0.out _).mono ?_); rintro e w5 ⟨rfl, hq5⟩; replace hq5 := hq5.symm; subst hq5)
          | (go_at_call 31; (with_reducible refine (F1.out _).mono ?_); rintro e w5 ⟨rfl, hq5⟩; replace hq5 := hq5.symm; subst hq5)
          | (go_at_call 31; (with_reducible refine (F2.out _).mono ?_); rintro e w5 ⟨rfl, hq5⟩; replace hq5 := hq5.symm; subst hq5)
          | (go_at_call 11; (refine (HWD.out _).mono ?_); rintro e w6 ⟨rfl, hb⟩; have AB6 := Lib.hid (at_keep AB5.out hb); have LB6 := Lib.hid (LB5.out.trans (hb.mono LB5.out.size)); clear hb)
          | (refine wpList_stm (xs := opC op0) (pre := []) (post := []) _ _ rfl rfl rfl rfl rop_size rfl rfl (op_one _) rfl (by simp) (At.news w6 _ (opC op0)) ?_; intro w7 hA7 hT7; rw [List.nil_append, List.append_nil] at hA7; have HA7 := Lib.hid hA7; have AB7 := Lib.hid ((AB6.out.alloc _).kept hT7 (by have := AB6.out.lt; unfold Just; omega)); have LB7 := Lib.hid ((LB6.out.alloc LB6.out.size _).trans (hT7.below (B := w.heap.size) (fun k hk => by unfold Just at hk; have := LB6.out.size; omega) (LB6.out.alloc LB6.out.size _).size)); clear hA7 hT7))
        rcases HIS.out with h | ⟨h, h2⟩ | ⟨h, h2⟩
        · have HN0 := Lib.hid (HNO.out (fun hh => by rw [h] at hh; cases hh.1))
          rw [h]
          clear h
          go_wp2
          go_ret2
          exact ⟨by rw [HN0.out.1, HN0.out.2]; rfl, LB7.out⟩
        · have HN0 := Lib.hid (HNO.out (fun hh => h2 hh.2))
          have hq := fun W : World => (run_eqR _ o W).trans (by rw [decide_eq_false h2])
          rw [h]
          clear h h2
          go_wp2_with (first
            | (refine wpList_ldw _ (by rfl) rfl rfl Tryd.underlying28 rfl rop_size rfl HA7.out.rng0 ?_)
            | (refine wpList_ldw _ (by rfl) rfl rfl Tryd.underlying28 rfl rop_size rfl AB7.out.rng0 ?_))
          go_ret2
          exact ⟨by rw [HN0.out.1, HN0.out.2]; rfl, LB7.out⟩
        · have HY0 := Lib.hid (HYES.out h h2)
          have hq := fun W : World => (run_eqR _ o W).trans (by rw [decide_eq_true h2])
          rw [h]
          clear h h2
          go_wp2_with (first
            | (refine wpList_ldw _ (by rfl) rfl rfl Tryd.underlying28 rfl rop_size rfl HA7.out.rng0 ?_)
            | (refine wpList_ldw _ (by rfl) rfl rfl Tryd.underlying28 rfl rop_size rfl AB7.out.rng0 ?_))
          go_ret2
          exact ⟨by rw [HY0.out.1, HY0.out.2]; rfl, LB7.out⟩
    · have HEB : Hid (encB ⟨(k : Int) + 1, rd, r1, r2, i⟩ = false) := Lib.hid (by
        cases h : encB ⟨(k : Int) + 1, rd, r1, r2, i⟩
        · rfl
        · exact absurd (small_of h) hs)
      have HEM : Hid (encM ⟨(k : Int) + 1, rd, r1, r2, i⟩ = 0#32) := Lib.hid (by unfold encM; rw [HEB.out]; rfl)
      obtain ⟨s0, hs0⟩ : ∃ s, s = decide (0 ≤ rd ∧ rd < 32) := ⟨_, rfl⟩
      obtain ⟨s1, hs1⟩ : ∃ s, s = decide (0 ≤ r1 ∧ r1 < 32) := ⟨_, rfl⟩
      obtain ⟨s2, hs2⟩ : ∃ s, s = decide (0 ≤ r2 ∧ r2 < 32) := ⟨_, rfl⟩
      have hn3 : (s0 && (s1 && s2)) = false := by
        rw [hs0, hs1, hs2, ← Bool.decide_and, ← Bool.decide_and]
        exact decide_eq_false hs
      rw [← hs0] at HS0
      rw [← hs1] at HS1
      rw [← hs2] at HS2
      clear hs0 hs1 hs2 hs hn hk hB
      cases s0 <;> cases s1 <;> cases s2
      all_goals first
        | (exact absurd hn3 (by decide))
        | skip
      all_goals
        clear hn3
        go_enter Tryd.func13, Tryd.ntmps13
        go_wp2_with (first
          | (go_at_call 20; (with_reducible refine (patterns_any _).mono ?_); rintro e w2 ⟨rfl, hA, hb⟩; have AB2 := Lib.hid (at_keep AB0.out hb); have LB2 := Lib.hid ((LB0.out _).trans (hb.mono (LB0.out _).size)); have cb0 : w2.cell? ⟨B, 0, none⟩ = some (.int .i64 ((k : Int) + 1)) := AB2.out.cell 0; have cb1 : w2.cell? ⟨B, 1, none⟩ = some (.int .i64 rd) := AB2.out.cell 1; have cb2 : w2.cell? ⟨B, 2, none⟩ = some (.int .i64 r1) := AB2.out.cell 2; have cb3 : w2.cell? ⟨B, 3, none⟩ = some (.int .i64 r2) := AB2.out.cell 3; clear hA hb)
          | (go_at_call 29; (with_reducible refine (HS0.out _).mono ?_); rintro e w5 ⟨rfl, hq5⟩; replace hq5 := hq5.symm; subst hq5)
          | (go_at_call 29; (with_reducible refine (HS1.out _).mono ?_); rintro e w5 ⟨rfl, hq5⟩; replace hq5 := hq5.symm; subst hq5)
          | (go_at_call 29; (with_reducible refine (HS2.out _).mono ?_); rintro e w5 ⟨rfl, hq5⟩; replace hq5 := hq5.symm; subst hq5))
        go_ret2
        exact ⟨by rw [HEB.out, HEM.out]; rfl, LB2.out⟩
  · have hf : named a = false := by simpa using hn
    have HEB : Hid (encB ⟨a, rd, r1, r2, i⟩ = false) := Lib.hid (by unfold encB; simp [hf])
    have HEM : Hid (encM ⟨a, rd, r1, r2, i⟩ = 0#32) := Lib.hid (by unfold encM; rw [HEB.out]; rfl)
    by_cases h1 : a < 1
    · clear hn hf hB
      go_enter Tryd.func13, Tryd.ntmps13
      go_wp2_with (go_at_call 20; (with_reducible refine (patterns_any _).mono ?_); rintro e w2 ⟨rfl, hA, hb⟩; have AB2 := Lib.hid (at_keep AB0.out hb); have LB2 := Lib.hid ((LB0.out _).trans (hb.mono (LB0.out _).size)); have cb0 : w2.cell? ⟨B, 0, none⟩ = some (.int .i64 a) := AB2.out.cell 0; clear hA hb)
      go_ret2
      exact ⟨by rw [HEB.out, HEM.out]; rfl, LB2.out⟩
    · have h2 : 69 < a := by simp [named] at hf; omega
      clear hn hf hB
      go_enter Tryd.func13, Tryd.ntmps13
      go_wp2_with (go_at_call 20; (with_reducible refine (patterns_any _).mono ?_); rintro e w2 ⟨rfl, hA, hb⟩; have AB2 := Lib.hid (at_keep AB0.out hb); have LB2 := Lib.hid ((LB0.out _).trans (hb.mono (LB0.out _).size)); have cb0 : w2.cell? ⟨B, 0, none⟩ = some (.int .i64 a) := AB2.out.cell 0; clear hA hb)
      go_ret2
      exact ⟨by rw [HEB.out, HEM.out]; rfl, LB2.out⟩

theorem wr_doc : ∀ k : Nat, k < 69 → wrB ((k : Int) + 1) = (rdB (fmO (k + 1)) && !decide (fmO (k + 1) = 9)) := by decide
theorem rwrites_any (n : Int) (w : World) : Calls Tryd.prog 15 #[.int .i64 n] w fun e w' => e = .returned (.bool (wrB n)) ∧ w' = w := by
  have fz : (formS.size : Int) = 69 := by rw [formS_size]; rfl
  by_cases hn : named n = true
  · obtain ⟨k, rfl⟩ : ∃ k : Nat, n = (k : Int) + 1 := ⟨(n - 1).toNat, by simp [named] at hn; omega⟩
    have hk : k < 69 := by simp [named] at hn; omega
    obtain ⟨f, hfe⟩ : ∃ f, f = fmO (k + 1) := ⟨_, rfl⟩
    have hf : f < 13 := by rw [hfe]; exact fmO_lt _
    have n1 : ((k : Int) + 1 < 1) = False := eq_false (by omega)
    have n2 : ((69 : Int) < (k : Int) + 1) = False := eq_false (by omega)
    have n3 : ((formS.size : Int) < (k : Int) + 1) = False := eq_false (by omega)
    have hfs : k < formS.size := by rw [formS_size]; exact hk
    have hfm : ((formS[k].toNat : Nat) : Int) = letO f := by rw [byN_eq hfs, forms_at k hk, hfe]
    have j1 : (k : Int) < (formS.size : Int) := by omega
    have k0 : (0 : Int) ≤ (k : Int) := by omega
    have kw : IntKind.i64.wrap ((k : Int) + 1 - 1) = (k : Int) := by rw [IntKind.wrap_i64]; omega
    have kw2 : IntKind.i64.wrap (k : Int) = (k : Int) := by rw [IntKind.wrap_i64]; omega
    have HW : Hid (wrB ((k : Int) + 1) = hasB strWr (letO f)) := Lib.hid (by rw [wr_doc k hk, has_wr f hf, hfe])
    have HH : Hid (Calls Tryd.prog 25 #[.string ⟨#[85, 74, 73, 82, 72, 65, 76, 67]⟩, .int .u8 (letO f)] w fun e w' => e = .returned (.bool (hasB strWr (letO f))) ∧ w' = w) := Lib.hid (has_any strWr (by decide) (letO f) w)
    clear hfe hf hn hk
    go_enter Tryd.func15, Tryd.ntmps15
    go_wp2_with (first
      | (go_at_call 21; (with_reducible refine (forms_any _).mono ?_); rintro e w5 ⟨rfl, hq5⟩; replace hq5 := hq5.symm; subst hq5)
      | (go_at_call 25; (with_reducible refine HH.out.mono ?_); rintro e w5 ⟨rfl, hq5⟩; replace hq5 := hq5.symm; subst hq5))
    go_ret
    exact ⟨by rw [HW.out]; rfl, rfl⟩
  · have hf : named n = false := by simpa using hn
    have HW : Hid (wrB n = false) := Lib.hid (by unfold wrB; simp [hf])
    by_cases h1 : n < 1
    · clear hn hf
      go_enter Tryd.func15, Tryd.ntmps15
      go_wp2
      go_ret
      exact ⟨by rw [HW.out]; rfl, rfl⟩
    · have h2 : 69 < n := by simp [named] at hf; omega
      clear hn hf
      go_enter Tryd.func15, Tryd.ntmps15
      go_wp2_with (go_at_call 21; (with_reducible refine (forms_any _).mono ?_); rintro e w5 ⟨rfl, hq5⟩; replace hq5 := hq5.symm; subst hq5)
      go_ret
      exact ⟨by rw [HW.out]; rfl, rfl⟩
end Go.Proofs.YtdloaeifiohefaaDoor
