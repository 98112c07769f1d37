/- The walks of ModelTells, ModelNew and ModelSeen. -/
import Derived.Test.YtakohcdopbckkaaMod8
import Derived.Test.YtakohcdopbckkaaHold
namespace Go.Proofs.Ytakohcdopbckkaa
open Go.RowKit Bm

theorem Ours.theirs {s : StM} {w w' : World} {e : Ending} (h : Ours s w e w') : Theirs s w e w' := by
  obtain ⟨B, cap, rfl, h1, h2⟩ := h
  obtain ⟨B', cap', e3, hr, _⟩ := Kd.Reads.of_own (K := v4K) h1 rfl
  cases e3
  exact ⟨B, cap, rfl, hr, h2⟩
theorem OursB.theirs {s : StM} {b : Bool} {w w' : World} {e : Ending} (h : OursB s b w e w') : TheirsB s b w e w' := by
  obtain ⟨B, cap, rfl, h1, h2⟩ := h
  obtain ⟨B', cap', e3, hr, _⟩ := Kd.Reads.of_own (K := v4K) h1 rfl
  cases e3
  exact ⟨B, cap, rfl, hr, h2⟩
theorem same_yes (s : StM) (A : Option Addr) (c : Nat) (B : Option Addr) (d : Nat) (w : World) (hR : v4K.Reads w A s.sure.length c s.sure) (hL : v4K.Reads w B s.sure.length d s.sure) (hn : s.sure.length ≤ 50000) :
    Calls Try.prog 12 #[.agg (stC (.slice A s.sure.length c) s).toArray, .agg (stC (.slice B s.sure.length d) s).toArray] w fun e w' => e = .returned (.bool true) ∧ Below w.heap.size w w' := by
  refine (same4_any A c s B d s w hR hL hn).mono ?_
  rintro e w' ⟨rfl, hb⟩
  exact ⟨by simp, hb⟩
theorem below_next {a b : World} (h : Below a.heap.size a b) {c : World} (k : Below b.heap.size b c) : Below a.heap.size a c := h.trans (k.mono h.size)
theorem newN_le (n : Int) : newN n ≤ 1000 := by unfold newN; omega
theorem sNew_len (n : Int) : (sNew n).sure.length = newN n := List.length_replicate

set_option maxRecDepth 100000 in
set_option maxHeartbeats 2000000 in
theorem modelNew_walk (n : Int) (_ : (Lit.int .i64 n).wf = true) (w : World) : Calls Try.prog 4 #[.int .i64 n] w fun e w' => e = .returned (.bool true) ∧ Below w.heap.size w w' := by
  have hl : (sNew n).sure.length ≤ 50000 := by rw [sNew_len]; have := newN_le n; omega
  have HL := Lib.hid hl
  clear hl
  go_enter Try.func4, Try.ntmps4
  go_wp2_with (first
    | (go_at_call 9; (with_reducible refine (alive9_any _).mono ?_); rintro e w1 ⟨rfl, hb⟩; have HB1 := Lib.hid hb; clear hb)
    | (go_at_call 19; (with_reducible refine (new4_any _ _).mono ?_); intro e w2 h; obtain ⟨B, c2, rfl, hr, hb⟩ := h.theirs; have HR2 := Lib.hid hr; have HB2 := Lib.hid (below_next HB1.out hb); clear h hr hb)
    | (go_at_call 20; (with_reducible refine (rnew4_any _ _).mono ?_); rintro e w3 ⟨D, c3, rfl, hr, hb⟩; have HR3 := Lib.hid hr; have HX3 := Lib.hid (HR2.out.kept hb); have HB3 := Lib.hid (below_next HB2.out hb); clear hr hb)
    | (go_at_call 12; (with_reducible refine (same_yes _ _ _ _ _ _ HX3.out HR3.out HL.out).mono ?_); rintro e w4 ⟨rfl, hb⟩; have HB4 := Lib.hid (below_next HB3.out hb); clear hb))
  go_ret
  exact ⟨rfl, HB4.out⟩

/-- Two states in variables, and a row. -/
structure XF (b b2 : Nat) (A : Option Addr) (c : Nat) (s : StM) (D : Option Addr) (c2 : Nat) (r : StM) (B : Option Addr) (d : Nat) (l : List V4) (W : World) : Prop where
  a : At W b 26 (stC (.slice A s.sure.length c) s)
  a2 : At W b2 28 (stC (.slice D r.sure.length c2) r)
  rs : v4K.Reads W A s.sure.length c s.sure
  rr : v4K.Reads W D r.sure.length c2 r.sure
  rl : v4K.Reads W B l.length d l
section
variable {b b2 : Nat} {A : Option Addr} {c : Nat} {s : StM} {D : Option Addr} {c2 : Nat} {r : StM} {B : Option Addr} {d : Nat} {l : List V4} {W W' : World}
theorem XF.kept (h : XF b b2 A c s D c2 r B d l W) (hB : Below W.heap.size W W') : XF b b2 A c s D c2 r B d l W' :=
  ⟨h.a.kept (Turned.of_below hB (Nat.le_refl _) NoBlock) (fun h => h), h.a2.kept (Turned.of_below hB (Nat.le_refl _) NoBlock) (fun h => h), h.rs.kept hB, h.rr.kept hB, h.rl.kept hB⟩
theorem XF.cells (h : XF b b2 A c s D c2 r B d l W) : W.cell? ⟨b, 0, none⟩ = some (.slice A s.sure.length c) ∧ W.cell? ⟨b2, 0, none⟩ = some (.slice D r.sure.length c2) ∧ W.cell? ⟨b2, 1, none⟩ = some (.bool r.go) :=
  ⟨h.a.cell 0, h.a2.cell 0, h.a2.cell 1⟩
theorem XF.may (h : XF b b2 A c s D c2 r B d l W) (hn : l.length ≤ 50000) : Calls Try.prog 17 #[.agg (stC (.slice A s.sure.length c) s).toArray, .slice B l.length d] W fun e w' => e = .returned (.bool (decide (sMay s l))) ∧ Below W.heap.size W w' := may4_any A c s B d l W h.rs h.rl hn
theorem XF.may2 (h : XF b b2 A c s D c2 r B d l W) (hn : l.length ≤ 50000) : Calls Try.prog 17 #[.agg (stC (.slice D r.sure.length c2) r).toArray, .slice B l.length d] W fun e w' => e = .returned (.bool (decide (sMay r l))) ∧ Below W.heap.size W w' := may4_any D c2 r B d l W h.rr h.rl hn
theorem XF.rmay2 (h : XF b b2 A c s D c2 r B d l W) (hn : l.length ≤ 50000) : Calls Try.prog 18 #[.agg (stC (.slice D r.sure.length c2) r).toArray, .slice B l.length d] W fun e w' => e = .returned (.bool (decide (sMay r l))) ∧ Below W.heap.size W w' := rmay4_any D c2 r B d l W h.rr h.rl hn
end
theorem may_calm (l : List V4) : sMay (calmS l) l := ⟨rfl, fun _ _ => .inl rfl⟩

set_option maxRecDepth 100000 in
set_option maxHeartbeats 4000000 in
theorem modelSeen_walk (A : Option Addr) (c : Nat) (s : StM) (_ : (Lit.int .i64 s.at_).wf = true) (B : Option Addr) (d : Nat) (l : List V4) (w : World) (hR : v4K.Reads w A s.sure.length c s.sure) (hL : v4K.Reads w B l.length d l) : Calls Try.prog 6 #[.agg (stC (.slice A s.sure.length c) s).toArray, .slice B l.length d] w fun e w' => e = .returned (.bool true) ∧ Below w.heap.size w w' := by
  obtain ⟨W0, hW0⟩ : ∃ W0, W0 = w.alloc (.cells (stC (.slice A s.sure.length c) s).toArray 26) := ⟨_, rfl⟩
  have A0 : At W0 w.heap.size 26 (stC (.slice A s.sure.length c) s) := by rw [hW0]; exact At.news w _ _
  have B0 : Below w.heap.size w W0 := by rw [hW0]; exact (Below.refl _ w).alloc (Nat.le_refl _) _
  have hz := st_zero
  have hnm : (s.sure.length : Int) ≤ 9223372036854775807 := by have := hR.le; have := hR.max; unfold maxLen at *; omega
  have hmm : (l.length : Int) ≤ 9223372036854775807 := by have := hL.le; have := hL.max; unfold maxLen at *; omega
  have HA0 := Lib.hid A0
  have HB0 := Lib.hid B0
  have HR0 := Lib.hid (hR.kept B0)
  have HL0 := Lib.hid (hL.kept B0)
  have AL := Lib.hid (alive9_any W0)
  clear A0 B0 hR hL
  by_cases hn : (s.sure.length : Int) ≤ 60
  · by_cases hm : (l.length : Int) ≤ 60
    · go_enter Try.func6, Try.ntmps6
      go_upto_region 1 with (fail)
      change Code.wp _ _ _ _ (w.alloc (.cells (stC (.slice A s.sure.length c) s).toArray 26))
      rw [← hW0]
      clear hW0
      go_upto_region 5 with (go_at_call 9; (with_reducible refine AL.out.mono ?_); rintro e w1 ⟨rfl, hb⟩; have HB1 := Lib.hid hb; have HA1 := Lib.hid (HA0.out.kept (Turned.of_below hb (Nat.le_refl _) NoBlock) (fun h => h)); have g0 : w1.cell? ⟨w.heap.size, 0, none⟩ = some (.slice A s.sure.length c) := HA1.out.cell 0; clear hb)
      have HR1 := Lib.hid (HR0.out.kept HB1.out)
      have HL1 := Lib.hid (HL0.out.kept HB1.out)
      have hl50 : l.length ≤ 50000 := by omega
      have hs50 : s.sure.length ≤ 50000 := by omega
      by_cases hmay : sMay s l
      · have hd : decide (sMay s l) = true := by simp [hmay]
        have HLEN : Hid (l.length = s.sure.length) := Lib.hid hmay.1
        have SE := seen4_any A c s B d l w1 HR1.out HL1.out hl50 hs50
        rw [hd, show sSeen s l = calmS l by unfold sSeen; rw [if_pos hmay]] at SE
        have HSE := Lib.hid SE
        have HMAY := Lib.hid hd
        clear SE hd hmay
        go_upto_region 6 with (first
          | (refine wpList_ldr (xs := stC (.slice A s.sure.length c) s) _ rfl rfl rfl Try.underlying26 rfl rs_size (stC_len _ _) HA1.out.rng0 ?_)
          | (go_at_call 10; (with_reducible refine HSE.out.mono ?_); intro e w2 h; obtain ⟨D, c2, rfl, hr, hb⟩ := h.theirs; have HR2 := Lib.hid hr; have HB2 := Lib.hid hb; clear h hr hb)
          | (refine wpList_stm (pre := []) (post := []) (xs := stC (.slice none 0 0) st0) (ys := stC (.slice D l.length c2) (calmS l)) _ _ rfl rfl rfl rfl st_size (by rfl) (stC_len _ _) (stC_one _) rfl (by simp) (At.news w2 _ _) ?_; intro V A9 T9; rw [List.nil_append, List.append_nil] at A9; have HA9 := Lib.hid A9; have HT9 := Lib.hid T9; clear A9 T9))
        have hbv : Below w1.heap.size w1 V := HB2.out.trans (((Below.refl _ w2).alloc (Nat.le_refl _) _).trans (below_just HT9.out (Nat.le_refl _) (by simp)) |>.mono HB2.out.size)
        have hf : XF w.heap.size w2.heap.size A c s D c2 (calmS l) B d l V := ⟨HA1.out.kept (Turned.of_below hbv (Nat.le_refl _) NoBlock) (fun h => h), HA9.out, HR1.out.kept hbv, HR2.out.kept (((Below.refl _ w2).alloc (Nat.le_refl _) _).trans (below_just HT9.out (Nat.le_refl _) (by simp))), HL1.out.kept hbv⟩
        obtain ⟨b2, hb2⟩ : ∃ b2, b2 = w2.heap.size := ⟨_, rfl⟩
        rw [← hb2] at hf ⊢
        have HF := Lib.hid hf
        have HBV := Lib.hid ((HB0.out.trans (HB1.out.mono HB0.out.size)).trans (hbv.mono (HB0.out.trans (HB1.out.mono HB0.out.size)).size))
        have HM1 := Lib.hid (decide_eq_true (may_calm l))
        have m1 := hf.may hl50
        rw [HMAY.out] at m1
        have HC1 := Lib.hid m1
        clear hbv hf hb2 HA1 HA9 HR1 HR2 HL1 HB2 HT9 HA0 HR0 HL0 AL g0 m1
        go_upto_region 10 with (first
          | (refine wpList_ldr (xs := stC (.slice A s.sure.length c) s) _ rfl rfl rfl Try.underlying26 rfl rs_size (stC_len _ _) HF.out.a.rng0 ?_)
          | (go_at_call 17; (with_reducible refine HC1.out.mono ?_); rintro e w3 ⟨rfl, hb⟩; have HF3 := Lib.hid (HF.out.kept hb); have HB3 := Lib.hid (HBV.out.trans (hb.mono HBV.out.size)); clear hb))
        have m2 : Calls Try.prog 17 #[.agg (stC (.slice D l.length c2) (calmS l)).toArray, .slice B l.length d] w3 (fun e w' => e = .returned (.bool true) ∧ Below w3.heap.size w3 w') := by
          have := HF3.out.may2 hl50
          rw [HM1.out] at this
          exact this
        have HC2 := Lib.hid m2
        clear m2
        by_cases h0 : (s.sure.length : Int) = 0
        · have h0' : ((s.sure.length : Int) == 0) = true := by rw [beq_iff_eq]; exact h0
          clear h0
          go_wp2_with (first
            | (with_reducible show wpList _ _ _ _ _ _; refine wpList_ldr (xs := stC (.slice D l.length c2) (calmS l)) _ rfl rfl rfl Try.underlying28 rfl st_size (stC_len _ _) HF3.out.a2.rng0 ?_)
            | (go_at_call 17; (with_reducible refine HC2.out.mono ?_); rintro e w4 ⟨rfl, hb⟩; have HF4 := Lib.hid (HF3.out.kept hb); have HB4 := Lib.hid (HB3.out.trans (hb.mono HB3.out.size)); have k0 : w4.cell? ⟨w.heap.size, 0, none⟩ = some (.slice A s.sure.length c) := HF4.out.a.cell 0; have k1 : w4.cell? ⟨b2, 1, none⟩ = some (.bool false) := HF4.out.a2.cell 1; clear hb))
          go_ret
          exact ⟨rfl, HB4.out⟩
        · have h0' : ((s.sure.length : Int) == 0) = false := by rw [beq_eq_false_iff_ne]; exact h0
          clear h0
          go_wp2_with (first
            | (with_reducible show wpList _ _ _ _ _ _; refine wpList_ldr (xs := stC (.slice D l.length c2) (calmS l)) _ rfl rfl rfl Try.underlying28 rfl st_size (stC_len _ _) HF3.out.a2.rng0 ?_)
            | (go_at_call 17; (with_reducible refine HC2.out.mono ?_); rintro e w4 ⟨rfl, hb⟩; have HF4 := Lib.hid (HF3.out.kept hb); have HB4 := Lib.hid (HB3.out.trans (hb.mono HB3.out.size)); have k0 : w4.cell? ⟨w.heap.size, 0, none⟩ = some (.slice A s.sure.length c) := HF4.out.a.cell 0; have k1 : w4.cell? ⟨b2, 1, none⟩ = some (.bool false) := HF4.out.a2.cell 1; have k2 : w4.cell? ⟨b2, 0, none⟩ = some (.slice D l.length c2) := HF4.out.a2.cell 0; have k3 : w4.cell? ⟨b2, 2, none⟩ = some (.int .i64 0) := HF4.out.a2.cell 2; have k4 : w4.cell? ⟨b2, 3, none⟩ = some (.int .u32 0) := HF4.out.a2.cell 3; have k5 : w4.cell? ⟨b2, 4, none⟩ = some (.int .u32 0) := HF4.out.a2.cell 4; have k6 : w4.cell? ⟨b2, 5, none⟩ = some (.int .u32 0) := HF4.out.a2.cell 5; have k7 : w4.cell? ⟨b2, 6, none⟩ = some (.int .u32 0) := HF4.out.a2.cell 6; have m3 : Calls Try.prog 18 #[.agg #[.slice D l.length c2, .bool false, .int .i64 0, .int .u32 0, .int .u32 0, .int .u32 0, .int .u32 0], .slice B l.length d] w4 (fun e w' => e = .returned (.bool true) ∧ Below w4.heap.size w4 w') := (by have := HF4.out.rmay2 hl50; rw [HM1.out] at this; exact this); have HC3 := Lib.hid m3; clear hb m3)
            | (go_at_call 18; (with_reducible refine HC3.out.mono ?_); rintro e w5 ⟨rfl, hb⟩; have HF5 := Lib.hid (HF4.out.kept hb); have HB5 := Lib.hid (HB4.out.trans (hb.mono HB4.out.size)); have k2 : w5.cell? ⟨b2, 0, none⟩ = some (.slice D l.length c2) := HF5.out.a2.cell 0; clear hb))
          go_ret
          exact ⟨rfl, HB5.out⟩
      · have hd : decide (sMay s l) = false := by simp [hmay]
        have SE := seen4_any A c s B d l w1 HR1.out HL1.out hl50 hs50
        rw [hd, show sSeen s l = s by unfold sSeen; rw [if_neg hmay]] at SE
        have HSE := Lib.hid SE
        have HMAY := Lib.hid hd
        clear SE hd hmay
        go_upto_region 6 with (first
          | (refine wpList_ldr (xs := stC (.slice A s.sure.length c) s) _ rfl rfl rfl Try.underlying26 rfl rs_size (stC_len _ _) HA1.out.rng0 ?_)
          | (go_at_call 10; (with_reducible refine HSE.out.mono ?_); intro e w2 h; obtain ⟨D, c2, rfl, hr, hb⟩ := h.theirs; have HR2 := Lib.hid hr; have HB2 := Lib.hid hb; clear h hr hb)
          | (refine wpList_stm (pre := []) (post := []) (xs := stC (.slice none 0 0) st0) (ys := stC (.slice D s.sure.length c2) s) _ _ rfl rfl rfl rfl st_size (by rfl) (stC_len _ _) (stC_one _) rfl (by simp) (At.news w2 _ _) ?_; intro V A9 T9; rw [List.nil_append, List.append_nil] at A9; have HA9 := Lib.hid A9; have HT9 := Lib.hid T9; clear A9 T9))
        have hbv : Below w1.heap.size w1 V := HB2.out.trans (((Below.refl _ w2).alloc (Nat.le_refl _) _).trans (below_just HT9.out (Nat.le_refl _) (by simp)) |>.mono HB2.out.size)
        have hf : XF w.heap.size w2.heap.size A c s D c2 s B d l V := ⟨HA1.out.kept (Turned.of_below hbv (Nat.le_refl _) NoBlock) (fun h => h), HA9.out, HR1.out.kept hbv, HR2.out.kept (((Below.refl _ w2).alloc (Nat.le_refl _) _).trans (below_just HT9.out (Nat.le_refl _) (by simp))), HL1.out.kept hbv⟩
        obtain ⟨b2, hb2⟩ : ∃ b2, b2 = w2.heap.size := ⟨_, rfl⟩
        rw [← hb2] at hf ⊢
        have HF := Lib.hid hf
        have HBV := Lib.hid ((HB0.out.trans (HB1.out.mono HB0.out.size)).trans (hbv.mono (HB0.out.trans (HB1.out.mono HB0.out.size)).size))
        have m1 := hf.may hl50
        rw [HMAY.out] at m1
        have HC1 := Lib.hid m1
        clear hbv hf hb2 HA1 HA9 HR1 HR2 HL1 HB2 HT9 HA0 HR0 HL0 AL g0 m1
        go_wp2_with (first
          | (refine wpList_ldr (xs := stC (.slice A s.sure.length c) s) _ rfl rfl rfl Try.underlying26 rfl rs_size (stC_len _ _) HF.out.a.rng0 ?_)
          | (go_at_call 17; (with_reducible refine HC1.out.mono ?_); rintro e w3 ⟨rfl, hb⟩; have HF3 := Lib.hid (HF.out.kept hb); have HB3 := Lib.hid (HBV.out.trans (hb.mono HBV.out.size)); clear hb)
          | (refine wpList_ldr (xs := stC (.slice D s.sure.length c2) s) _ rfl rfl rfl Try.underlying28 rfl st_size (stC_len _ _) HF3.out.a2.rng0 ?_)
          | (refine wpList_ldr (xs := stC (.slice A s.sure.length c) s) _ rfl rfl rfl Try.underlying26 rfl rs_size (stC_len _ _) HF3.out.a.rng0 ?_)
          | (go_at_call 12; (with_reducible refine (same_yes _ _ _ _ _ _ HF3.out.rr HF3.out.rs hs50).mono ?_); rintro e w4 ⟨rfl, hb⟩; have HB4 := Lib.hid (HB3.out.trans (hb.mono HB3.out.size)); clear hb))
        go_ret
        exact ⟨rfl, HB4.out⟩
    · have hm' : (60 : Int) < (l.length : Int) := by omega
      go_enter Try.func6, Try.ntmps6
      go_upto_region 1 with (fail)
      change Code.wp _ _ _ _ (w.alloc (.cells (stC (.slice A s.sure.length c) s).toArray 26))
      rw [← hW0]
      clear hW0
      go_wp2_with (go_at_call 9; (with_reducible refine AL.out.mono ?_); rintro e w1 ⟨rfl, hb⟩; have HB1 := Lib.hid (HB0.out.trans (hb.mono HB0.out.size)); have g0 : w1.cell? ⟨w.heap.size, 0, none⟩ = some (.slice A s.sure.length c) := (HA0.out.kept (Turned.of_below hb (Nat.le_refl _) NoBlock) (fun h => h)).cell 0; clear hb)
      go_ret
      exact ⟨rfl, HB1.out⟩
  · have hn' : (60 : Int) < (s.sure.length : Int) := by omega
    go_enter Try.func6, Try.ntmps6
    go_upto_region 1 with (fail)
    change Code.wp _ _ _ _ (w.alloc (.cells (stC (.slice A s.sure.length c) s).toArray 26))
    rw [← hW0]
    clear hW0
    go_wp2_with (go_at_call 9; (with_reducible refine AL.out.mono ?_); rintro e w1 ⟨rfl, hb⟩; have HB1 := Lib.hid (HB0.out.trans (hb.mono HB0.out.size)); have g0 : w1.cell? ⟨w.heap.size, 0, none⟩ = some (.slice A s.sure.length c) := (HA0.out.kept (Turned.of_below hb (Nat.le_refl _) NoBlock) (fun h => h)).cell 0; clear hb)
    go_ret
    exact ⟨rfl, HB1.out⟩
end Go.Proofs.Ytakohcdopbckkaa
