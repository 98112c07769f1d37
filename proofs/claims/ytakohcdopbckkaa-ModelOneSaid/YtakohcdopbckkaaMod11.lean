/- The walk of ModelTells. -/
import Derived.Test.YtakohcdopbckkaaMod10
namespace Go.Proofs.Ytakohcdopbckkaa
open Go.RowKit Bm
theorem ldM_eq (ρ : Operand → Value) (d : Option Tmp) (x : Operand) (ty : TypeId) (pos : String) (af : Array Edge) (gd : Option (Nat × Bool)) (W : World) : (execOp ρ ⟨d, .load 28 x, ty, pos, af, gd⟩).run Try.prog W = (run_ex (loadOf 28) (ρ x) W).choose := load_is _ ρ d x ty pos af gd W
theorem ldT_eq (ρ : Operand → Value) (d : Option Tmp) (x : Operand) (ty : TypeId) (pos : String) (af : Array Edge) (gd : Option (Nat × Bool)) (W : World) : (execOp ρ ⟨d, .load 26 x, ty, pos, af, gd⟩).run Try.prog W = (run_ex (loadOf 26) (ρ x) W).choose := load_is _ ρ d x ty pos af gd W
theorem ldV_eq (ρ : Operand → Value) (d : Option Tmp) (x : Operand) (ty : TypeId) (pos : String) (af : Array Edge) (gd : Option (Nat × Bool)) (W : World) : (execOp ρ ⟨d, .load 24 x, ty, pos, af, gd⟩).run Try.prog W = (run_ex (loadOf 24) (ρ x) W).choose := load_is _ ρ d x ty pos af gd W
theorem ldM_at {W : World} {g : Nat} {sl : Value} {s : StM} (h : At W g 28 (stC sl s)) : (run_ex (loadOf 28) (.pointer (some ⟨g, 0, none⟩)) W).choose = .ok (.value (.agg (stC sl s).toArray)) W := load_at Try.underlying28 rfl st_size h.rng0 (stC_len _ _)
theorem ldT_at {W : World} {g : Nat} {sl : Value} {s : StM} (h : At W g 26 (stC sl s)) : (run_ex (loadOf 26) (.pointer (some ⟨g, 0, none⟩)) W).choose = .ok (.value (.agg (stC sl s).toArray)) W := load_at Try.underlying26 rfl rs_size h.rng0 (stC_len _ _)
theorem ldV_at {W : World} {g : Nat} {v : V4} (h : At W g 24 (v4C v)) : (run_ex (loadOf 24) (.pointer (some ⟨g, 0, none⟩)) W).choose = .ok (.value (.agg (v4C v).toArray)) W := load_at Try.underlying24 rfl v4_size h.rng0 (v4_len _)

/-- A call that hands back this state; whoever reads its row. -/
def Back (s : StM) (n : Nat) (w : World) (e : Ending) (w' : World) : Prop :=
  ∃ B cap, e = .returned (.agg (stC (.slice B n cap) s).toArray) ∧ v4K.Reads w' B n cap s.sure ∧ Below w.heap.size w w'
theorem Theirs.back {s : StM} {n : Nat} (hn : s.sure.length = n) {w w' : World} {e : Ending} (h : Theirs s w e w') : Back s n w e w' := by
  subst hn
  exact h
theorem same_back (s : StM) (n : Nat) (hn : s.sure.length = n) (h50 : n ≤ 50000) (A : Option Addr) (c : Nat) (B : Option Addr) (d : Nat) (w : World) (hR : v4K.Reads w A n c s.sure) (hL : v4K.Reads w B n d s.sure) :
    Calls Try.prog 12 #[.agg (stC (.slice A n c) s).toArray, .agg (stC (.slice B n d) s).toArray] w fun e w' => e = .returned (.bool true) ∧ Below w.heap.size w w' := by
  subst hn
  exact same_yes s A c B d w hR hL h50
end Go.Proofs.Ytakohcdopbckkaa

namespace Go.Proofs.Ytakohcdopbckkaa
open Go.RowKit Bm
attribute [local go_sem ↓] Go.wp_at_zero Go.wp_at_succ ldM_eq ldT_eq ldV_eq

set_option maxRecDepth 100000 in
set_option maxHeartbeats 4000000 in
theorem modelTells_walk (A : Option Addr) (c : Nat) (s : StM) (_ : (Lit.int .i64 s.at_).wf = true) (i : Int) (_ : (Lit.int .i64 i).wf = true) (B : Option Addr) (d : Nat) (l : List V4) (w : World) (hR : v4K.Reads w A s.sure.length c s.sure) (hL : v4K.Reads w B l.length d l) : Calls Try.prog 3 #[.agg (stC (.slice A s.sure.length c) s).toArray, .int .i64 i, .slice B l.length d] w fun e w' => e = .returned (.bool true) ∧ Below w.heap.size w w' := by
  obtain ⟨W0, hW0⟩ : ∃ W0, W0 = w.alloc (.cells (stC (.slice A s.sure.length c) s).toArray 26) := ⟨_, rfl⟩
  have A0 : At W0 w.heap.size 26 (stC (.slice A s.sure.length c) s) := by rw [hW0]; exact At.news w _ _
  have B0 : Below w.heap.size w W0 := by rw [hW0]; exact (Below.refl _ w).alloc (Nat.le_refl _) _
  have hz := st_zero
  have hzr := rs_zero
  have hzv := v4_zero
  have hnm : (s.sure.length : Int) ≤ 9223372036854775807 := by have := hR.le; have := hR.max; unfold maxLen at *; omega
  have hmm : (l.length : Int) ≤ 9223372036854775807 := by have := hL.le; have := hL.max; unfold maxLen at *; omega
  have HA0 := Lib.hid A0
  have HB0 := Lib.hid B0
  have HR0 := Lib.hid (hR.kept B0)
  have HL0 := Lib.hid (hL.kept B0)
  have AL := Lib.hid (alive9_any W0)
  clear A0 B0 hR hL
  have go0 : ∀ (w1 : World), Below W0.heap.size W0 w1 → w1.cell? ⟨w.heap.size, 0, none⟩ = some (.slice A s.sure.length c) := fun w1 h => (at_kept HA0.out h).cell 0
  have GO := Lib.hid go0
  clear go0
  have hcase : ((60 : Int) < (s.sure.length : Int)) ∨ ((s.sure.length : Int) ≤ 60 ∧ (60 : Int) < (l.length : Int)) ∨ ((s.sure.length : Int) ≤ 60 ∧ (l.length : Int) ≤ 60 ∧ ((l.length : Int) == 0) = true) ∨ ((s.sure.length : Int) ≤ 60 ∧ (l.length : Int) ≤ 60 ∧ ((l.length : Int) == 0) = false ∧ 0 < l.length) := by
    simp only [beq_iff_eq, beq_eq_false_iff_ne]
    omega
  rcases hcase with h1 | ⟨h1, h2⟩ | ⟨h1, h2, h3⟩ | ⟨h1, h2, h3, h4⟩
  case inr.inr.inr =>
    have hs50 : s.sure.length ≤ 50000 := by omega
    have hl50 : l.length ≤ 50000 := by omega
    go_enter Try.func3, Try.ntmps3
    go_upto_region 1 with (fail)
    change Code.wp _ _ _ _ (w.alloc (.cells (stC (.slice A s.sure.length c) s).toArray 26))
    rw [← hW0]
    clear hW0
    go_upto_region 5 with (go_at_call 9; (with_reducible refine AL.out.mono ?_); rintro e w1 ⟨rfl, hb⟩; have HB1 := Lib.hid hb; have g0 := GO.out _ hb; clear hb)
    have HA1 := Lib.hid (at_kept HA0.out HB1.out)
    have HR1 := Lib.hid (HR0.out.kept HB1.out)
    have HL1 := Lib.hid (HL0.out.kept HB1.out)
    have HBT := Lib.hid (below_next HB0.out HB1.out)
    obtain ⟨v, hv⟩ : ∃ v, v = v4K.nth l 0 := ⟨_, rfl⟩
    obtain ⟨g, off, hB, _, hr⟩ := HL1.out.at_ h4
    rw [← hv, Nat.zero_mul, Nat.add_zero] at hr
    have HRV := Lib.hid hr
    subst hB
    have h0' : (0 : Int) < (l.length : Int) := by omega
    clear hv hr g0 HA0 HB0 HR0 HL0 AL GO HB1
    go_upto_region 6 with (first
      | (refine wpList_ldr (xs := v4C v) _ rfl rfl rfl Try.underlying24 rfl v4_size (v4_len _) HRV.out ?_)
      | (refine wpList_stm (pre := []) (post := []) (xs := v4C v40) (ys := v4C v) _ _ rfl rfl rfl rfl v4_size (by rfl) (v4_len _) (v4_one _) rfl (by simp) (At.news w1 _ _) ?_; intro V1 A9 T9; rw [List.nil_append, List.append_nil] at A9; have HV1 := Lib.hid A9; have HT1 := Lib.hid T9; clear A9 T9))
    have hbv1 := below_var HT1.out
    obtain ⟨b7, hb7⟩ : ∃ b7, b7 = w1.heap.size := ⟨_, rfl⟩
    have hv1 := HV1.out
    rw [← hb7] at hv1 ⊢
    have HV7 := Lib.hid hv1
    have HA2 := Lib.hid (at_kept HA1.out hbv1)
    have HR2 := Lib.hid (HR1.out.kept hbv1)
    have HL2 := Lib.hid (HL1.out.kept hbv1)
    have HB2 := Lib.hid (below_next HBT.out hbv1)
    obtain ⟨r, hr⟩ : ∃ r, r = sSeen s l := ⟨_, rfl⟩
    obtain ⟨mb, hmb⟩ : ∃ mb, mb = decide (sMay s l) := ⟨_, rfl⟩
    have SE := fun W h1 h2 => seen4_any A c s (some ⟨g, off, none⟩) d l W h1 h2 hl50 hs50
    have RSE := fun W h1 h2 => rseen4_any A c s (some ⟨g, off, none⟩) d l W h1 h2 hl50
    have hrl : r.sure.length ≤ 50000 := by
      rw [hr]
      unfold sSeen
      split
      · exact hl50
      · exact hs50
    rw [← hr, ← hmb] at SE RSE
    obtain ⟨nr, hnr⟩ : ∃ nr, nr = r.sure.length := ⟨_, rfl⟩
    rw [← hnr] at hrl
    have HNR := Lib.hid hnr
    have HSE : Hid (∀ W, v4K.Reads W A s.sure.length c s.sure → v4K.Reads W (some ⟨g, off, none⟩) l.length d l → Calls Try.prog 10 #[.agg (stC (.slice A s.sure.length c) s).toArray, .slice (some ⟨g, off, none⟩) l.length d] W fun e w' => ∃ D c2, e = .returned (.tuple #[.agg (stC (.slice D nr c2) r).toArray, .bool mb]) ∧ v4K.Reads w' D nr c2 r.sure ∧ Below W.heap.size W w') := Lib.hid (fun W h1 h2 => (SE W h1 h2).mono fun e w' h => by
      obtain ⟨D, c2, e1, e2, e3⟩ := h.theirs
      rw [← hnr] at e1 e2
      exact ⟨D, c2, e1, e2, e3⟩)
    have HRSE : Hid (∀ W, v4K.Reads W A s.sure.length c s.sure → v4K.Reads W (some ⟨g, off, none⟩) l.length d l → Calls Try.prog 11 #[.agg (stC (.slice A s.sure.length c) s).toArray, .slice (some ⟨g, off, none⟩) l.length d] W fun e w' => ∃ D c2, e = .returned (.tuple #[.agg (stC (.slice D nr c2) r).toArray, .bool mb]) ∧ v4K.Reads w' D nr c2 r.sure ∧ Below W.heap.size W w') := Lib.hid (fun W h1 h2 => (RSE W h1 h2).mono fun e w' h => by
      obtain ⟨D, c2, e1, e2, e3⟩ := h
      rw [← hnr] at e1 e2
      exact ⟨D, c2, e1, e2, e3⟩)
    have HMB := Lib.hid hmb
    clear hbv1 hb7 hv1 HV1 HT1 HA1 HR1 HL1 HBT hr hmb SE RSE hnr HRV
    go_upto_region 7 with (first
      | (refine wpList_ldr (xs := stC (.slice A s.sure.length c) s) _ rfl rfl rfl Try.underlying26 rfl rs_size (stC_len _ _) HA2.out.rng0 ?_)
      | (go_at_call 10; (with_reducible refine (HSE.out _ HR2.out HL2.out).mono ?_); rintro e w2 ⟨D, c2, rfl, hr, hb⟩; have HR3 := Lib.hid hr; have HB3 := Lib.hid hb; clear hr hb)
      | (refine wpList_stm (pre := []) (post := []) (xs := stC (.slice none 0 0) st0) (ys := stC (.slice D nr c2) r) _ _ rfl rfl rfl rfl st_size (by rfl) (stC_len _ _) (stC_one _) rfl (by simp) (At.news w2 _ _) ?_; intro V2 A9 T9; rw [List.nil_append, List.append_nil] at A9; have HA9 := Lib.hid A9; have HT9 := Lib.hid T9; clear A9 T9))
    have hb3 : Below V1.heap.size V1 V2 := below_next HB3.out (below_var HT9.out)
    obtain ⟨b8, hb8⟩ : ∃ b8, b8 = w2.heap.size := ⟨_, rfl⟩
    have ha9 := HA9.out
    rw [← hb8] at ha9 ⊢
    have HV8 := Lib.hid ha9
    have HX8 := Lib.hid (HR3.out.kept (below_var HT9.out))
    have HA3 := Lib.hid (at_kept HA2.out hb3)
    have HW7 := Lib.hid (at_kept HV7.out hb3)
    have HR4 := Lib.hid (HR2.out.kept hb3)
    have HL4 := Lib.hid (HL2.out.kept hb3)
    have HB4 := Lib.hid (below_next HB2.out hb3)
    clear hb3 hb8 ha9 HA9 HT9 HB3 HR3 HA2 HV7 HR2 HL2 HB2
    go_upto_region 8 with (first
      | (refine wpList_ldr (xs := stC (.slice A s.sure.length c) s) _ rfl rfl rfl Try.underlying26 rfl rs_size (stC_len _ _) HA3.out.rng0 ?_)
      | (go_at_call 11; (with_reducible refine (HRSE.out _ HR4.out HL4.out).mono ?_); rintro e w3 ⟨E, c3, rfl, hr, hb⟩; have HR5 := Lib.hid hr; have HB5 := Lib.hid hb; clear hr hb)
      | (refine wpList_stm (pre := []) (post := []) (xs := stC (.slice none 0 0) st0) (ys := stC (.slice E nr c3) r) _ _ rfl rfl rfl rfl rs_size (by rfl) (stC_len _ _) (stC_one _) rfl (by simp) (At.news w3 _ _) ?_; intro V3 A9 T9; rw [List.nil_append, List.append_nil] at A9; have HA9 := Lib.hid A9; have HT9 := Lib.hid T9; clear A9 T9))
    have hb3 : Below V2.heap.size V2 V3 := below_next HB5.out (below_var HT9.out)
    obtain ⟨b10, hb10⟩ : ∃ b10, b10 = w3.heap.size := ⟨_, rfl⟩
    have ha9 := HA9.out
    rw [← hb10] at ha9 ⊢
    have KA : ∀ W, Below V3.heap.size V3 W → At W w.heap.size 26 (stC (.slice A s.sure.length c) s) := fun W h => at_kept (at_kept HA3.out hb3) h
    have KV : ∀ W, Below V3.heap.size V3 W → At W b7 24 (v4C v) := fun W h => at_kept (at_kept HW7.out hb3) h
    have K8 : ∀ W, Below V3.heap.size V3 W → At W b8 28 (stC (.slice D nr c2) r) := fun W h => at_kept (at_kept HV8.out hb3) h
    have K10 : ∀ W, Below V3.heap.size V3 W → At W b10 26 (stC (.slice E nr c3) r) := fun W h => at_kept ha9 h
    have KS : ∀ W, Below V3.heap.size V3 W → v4K.Reads W A s.sure.length c s.sure := fun W h => (HR4.out.kept hb3).kept h
    have KL : ∀ W, Below V3.heap.size V3 W → v4K.Reads W (some ⟨g, off, none⟩) l.length d l := fun W h => (HL4.out.kept hb3).kept h
    have KX : ∀ W, Below V3.heap.size V3 W → v4K.Reads W D nr c2 r.sure := fun W h => (HX8.out.kept hb3).kept h
    have KY : ∀ W, Below V3.heap.size V3 W → v4K.Reads W E nr c3 r.sure := fun W h => (HR5.out.kept (below_var HT9.out)).kept h
    have ea : ∀ W, Below V3.heap.size V3 W → (run_ex (loadOf 26) (.pointer (some ⟨w.heap.size, 0, none⟩)) W).choose = .ok (.value (.agg (stC (.slice A s.sure.length c) s).toArray)) W := fun W h => ldT_at (KA W h)
    have ev : ∀ W, Below V3.heap.size V3 W → (run_ex (loadOf 24) (.pointer (some ⟨b7, 0, none⟩)) W).choose = .ok (.value (.agg (v4C v).toArray)) W := fun W h => ldV_at (KV W h)
    have ex : ∀ W, Below V3.heap.size V3 W → (run_ex (loadOf 28) (.pointer (some ⟨b8, 0, none⟩)) W).choose = .ok (.value (.agg (stC (.slice D nr c2) r).toArray)) W := fun W h => ldM_at (K8 W h)
    have ey : ∀ W, Below V3.heap.size V3 W → (run_ex (loadOf 26) (.pointer (some ⟨b10, 0, none⟩)) W).choose = .ok (.value (.agg (stC (.slice E nr c3) r).toArray)) W := fun W h => ldT_at (K10 W h)
    obtain ⟨s1, hs1⟩ : ∃ s1, s1 = sDone s i v := ⟨_, rfl⟩
    obtain ⟨s2, hs2⟩ : ∃ s2, s2 = sBegun s i v := ⟨_, rfl⟩
    have l1 : s1.sure.length = s.sure.length := by rw [hs1, sDone_len]
    have l2 : s2.sure.length = s.sure.length := by rw [hs2, sBegun_sure]
    have CD : Hid (∀ W, Below V3.heap.size V3 W → Calls Try.prog 13 #[.agg (stC (.slice A s.sure.length c) s).toArray, .int .i64 i, .agg (v4C v).toArray] W (Back s1 s.sure.length W)) := Lib.hid (fun W h => (done4_any A c s i v W (KS W h) hs50).mono fun e w' h => by rw [← hs1] at h; exact h.theirs.back l1)
    have CRD : Hid (∀ W, Below V3.heap.size V3 W → Calls Try.prog 14 #[.agg (stC (.slice A s.sure.length c) s).toArray, .int .i64 i, .agg (v4C v).toArray] W (Back s1 s.sure.length W)) := Lib.hid (fun W h => (rdone4_any A c s i v W (KS W h) hs50).mono fun e w' h => by rw [← hs1] at h; exact h.back l1)
    have CB : Hid (∀ W, Below V3.heap.size V3 W → Calls Try.prog 15 #[.agg (stC (.slice A s.sure.length c) s).toArray, .int .i64 i, .agg (v4C v).toArray] W (Back s2 s.sure.length W)) := Lib.hid (fun W h => (begun4_any A c s i v W (KS W h) hs50).mono fun e w' h => by rw [← hs2] at h; exact h.theirs.back l2)
    have CRB : Hid (∀ W, Below V3.heap.size V3 W → Calls Try.prog 16 #[.agg (stC (.slice A s.sure.length c) s).toArray, .int .i64 i, .agg (v4C v).toArray] W (Back s2 s.sure.length W)) := Lib.hid (fun W h => (rbegun4_any A c s i v W (KS W h)).mono fun e w' h => by rw [← hs2] at h; exact h.back l2)
    have CM : Hid (∀ W, Below V3.heap.size V3 W → Calls Try.prog 17 #[.agg (stC (.slice A s.sure.length c) s).toArray, .slice (some ⟨g, off, none⟩) l.length d] W fun e w' => e = .returned (.bool mb) ∧ Below W.heap.size W w') := Lib.hid (fun W h => by have := may4_any A c s (some ⟨g, off, none⟩) d l W (KS W h) (KL W h) hl50; rw [← HMB.out] at this; exact this)
    have CRM : Hid (∀ W, Below V3.heap.size V3 W → Calls Try.prog 18 #[.agg (stC (.slice A s.sure.length c) s).toArray, .slice (some ⟨g, off, none⟩) l.length d] W fun e w' => e = .returned (.bool mb) ∧ Below W.heap.size W w') := Lib.hid (fun W h => by have := rmay4_any A c s (some ⟨g, off, none⟩) d l W (KS W h) (KL W h) hl50; rw [← HMB.out] at this; exact this)
    have CXY : Hid (∀ W, Below V3.heap.size V3 W → Calls Try.prog 12 #[.agg (stC (.slice D nr c2) r).toArray, .agg (stC (.slice E nr c3) r).toArray] W fun e w' => e = .returned (.bool true) ∧ Below W.heap.size W w') := Lib.hid (fun W h => same_back r nr HNR.out.symm hrl D c2 E c3 W (KX W h) (KY W h))
    have L1 := Lib.hid l1
    have L2 := Lib.hid l2
    have S0 : Below V3.heap.size V3 V3 := Below.refl _ _
    have HBZ := Lib.hid (below_next HB4.out hb3)
    clear hb3 hb10 ha9 HA9 HT9 HB5 HR5 HA3 HW7 HV8 HX8 HR4 HL4 KA KV K8 K10 KS KL KX KY hs1 hs2 l1 l2 HB4
    go_region_held3 (fun W => Below V3.heap.size V3 W) (first | assumption | exact S0.drew) (first
      | (go_at_call 13; (with_reducible refine (CD.out _ (by assumption)).mono ?_); rintro e v1 ⟨B1, k1, rfl, hr, hb⟩; have S1 := Below.trans (by assumption) (hb.mono (Below.size (by assumption))); have R1 := Lib.hid hr; clear hr hb)
      | (go_at_call 14; (with_reducible refine (CRD.out _ (by assumption)).mono ?_); rintro e v2 ⟨B2, k2, rfl, hr, hb⟩; have S2 := S1.trans (hb.mono S1.size); have R2 := Lib.hid hr; have R1' := Lib.hid (R1.out.kept hb); clear hr hb)
      | (go_at_call 12; (with_reducible refine (same_back s1 _ L1.out hs50 _ _ _ _ _ R1'.out R2.out).mono ?_); rintro e v3 ⟨rfl, hb⟩; have S3 := S2.trans (hb.mono S2.size); clear hb)
      | (go_at_call 15; (with_reducible refine (CB.out _ (by assumption)).mono ?_); rintro e v4 ⟨B4, k4, rfl, hr, hb⟩; have S4 := S3.trans (hb.mono S3.size); have R4 := Lib.hid hr; clear hr hb)
      | (go_at_call 16; (with_reducible refine (CRB.out _ (by assumption)).mono ?_); rintro e v5 ⟨B5, k5, rfl, hr, hb⟩; have S5 := S4.trans (hb.mono S4.size); have R5 := Lib.hid hr; have R4' := Lib.hid (R4.out.kept hb); clear hr hb)
      | (go_at_call 12; (with_reducible refine (same_back s2 _ L2.out hs50 _ _ _ _ _ R4'.out R5.out).mono ?_); rintro e v6 ⟨rfl, hb⟩; have S6 := S5.trans (hb.mono S5.size); clear hb))
    have HS6 : Hid (Below V3.heap.size V3 v6) := Lib.hid (by assumption)
    clear S1 S2 S3 S4 S5 S6
    go_wp2_with fail
    have S6 := HS6.out
    go_region_held3 (fun W => Below V3.heap.size V3 W) (first | assumption | exact S6.drew) (first
      | (go_at_call 17; (with_reducible refine (CM.out _ (by assumption)).mono ?_); rintro e v7 ⟨rfl, hb⟩; have S7 := Below.trans (by assumption) (hb.mono (Below.size (by assumption))); clear hb)
      | (go_at_call 18; (with_reducible refine (CRM.out _ (by assumption)).mono ?_); rintro e v8 ⟨rfl, hb⟩; have S8 := S7.trans (hb.mono S7.size); clear hb)
      | (go_at_call 12; (with_reducible refine (CXY.out _ (by assumption)).mono ?_); rintro e v9 ⟨rfl, hb⟩; have S9 := S8.trans (hb.mono S8.size); clear hb))
    have HS9 : Hid (Below V3.heap.size V3 v9) := Lib.hid (by assumption)
    go_wp2
    go_ret
    exact ⟨rfl, below_next HBZ.out HS9.out⟩
  all_goals
    go_enter Try.func3, Try.ntmps3
    go_upto_region 1 with (fail)
    change Code.wp _ _ _ _ (w.alloc (.cells (stC (.slice A s.sure.length c) s).toArray 26))
    rw [← hW0]
    clear hW0
    go_wp2_with (go_at_call 9; (with_reducible refine AL.out.mono ?_); rintro e w1 ⟨rfl, hb⟩; have HB1 := Lib.hid (below_next HB0.out hb); have g0 := GO.out _ hb; clear hb)
    go_ret
    exact ⟨rfl, HB1.out⟩
end Go.Proofs.Ytakohcdopbckkaa
