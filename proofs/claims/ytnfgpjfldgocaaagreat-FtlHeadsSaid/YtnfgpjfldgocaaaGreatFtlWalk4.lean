/- The walk of layer ftl's statement FtlHeads: what stands on the flash is what the store says. -/
import Derived.Test.YtnfgpjfldgocaaaGreatFtlWalk3
import Derived.Test.YtnfgpjfldgocaaaGreatFtlHh
namespace Go.Proofs.YtnfgpjfldgocaaaGreat
open Go.RowKit Bm Go.Shelf

section
variable {C : Prop} {B p f q s k : Nat} {K : Nat → Prop} {Q W T E : Int} {V : BitVec 32 → List (BitVec 32)} {d : DrvM} {x : StoM} {w w' : World}
theorem words_reads {w : World} {gw n cap : Nat} {ws : List (BitVec 32)} {rest : List Value} (h : At w gw 38 (Us ws ++ rest)) (hl : ws.length = n) (hc : n ≤ cap) (hm : cap ≤ maxLen) : ReadsU w (some ⟨gw, 0, none⟩) n cap ws :=
  ⟨hl, hc, hm, fun _ => ⟨⟨gw, 0, none⟩, rfl, h.lt, fun j u hu => by
    have e : (⟨gw, 0, none⟩ : Addr).add j = ⟨gw, j, none⟩ := by unfold Addr.add; split <;> simp_all
    rw [e, h.cell, List.getElem?_append_left (List.getElem?_eq_some_iff.1 hu).1]
    exact hu⟩⟩
theorem Well.wordsU (h : Well C B p f q s k K Q W T E V w d x) : Calls Tryz.prog 30 #[.pointer (some ⟨p, 0, none⟩)] w fun e w' => ∃ g cap, e = .returned (.slice (some ⟨g, 0, none⟩) (k * 64) cap) ∧ ReadsU w' (some ⟨g, 0, none⟩) (k * 64) cap d.f.chip.ws ∧ Below w.heap.size w w' := by
  obtain ⟨⟨g, hs⟩, hf, _⟩ := h
  have ok := hf.sys.live.ok
  have hn := ok.ok.chip.words
  refine (hs.dv.st.st.words ok.ok).mono ?_
  rintro e w' ⟨g, cap, rest, rfl, hA, hl, hm, hg, hB⟩
  rw [Us_length, hn]
  rw [List.length_append, Us_length, hn] at hl
  exact ⟨g, cap, rfl, words_reads hA hn (by omega) hm, hB⟩
theorem ReadsB.turned {A : Option Addr} {n cap : Nat} {bs : List BlkM} {S : Nat → Prop} (h : ReadsB w A n cap bs) (t : Turned S w w') (hS : ∀ ad, A = some ad → ¬ S ad.block) : ReadsB w' A n cap bs :=
  ⟨h.len, h.le, h.max, h.ok, fun hn => by
    obtain ⟨g, off, e, hlt, hc⟩ := h.cell hn
    exact ⟨g, off, e, Nat.lt_of_lt_of_le hlt t.size, fun j b hb => range_kept (hc j b hb) (t.block g hlt (hS _ e))⟩⟩
theorem ReadsL.turned {A : Option Addr} {n cap : Nat} {xs : List PlM} {S : Nat → Prop} (h : ReadsL w A n cap xs) (t : Turned S w w') (hS : ∀ ad, 0 < n → A = some ad → ¬ S ad.block) : ReadsL w' A n cap xs :=
  ⟨h.len, h.le, h.max, fun hn => by
    obtain ⟨g, off, e, hlt, hc⟩ := h.cell hn
    exact ⟨g, off, e, Nat.lt_of_lt_of_le hlt t.size, fun j b hb => range_kept (hc j b hb) (t.block g hlt (hS _ hn e))⟩⟩
set_option maxRecDepth 100000 in
theorem run_b0f (w : World) : (Instr.build 67 #[]).run Tryz.prog w = .ok (.agg #[.int .u32 0, .int .u32 0, .int .u32 0, .int .u32 0]) w := by kernel_rfl
/-- The block that a slice stands in. -/
def InB (A : Option Addr) (i : Nat) : Prop := ∃ ad, A = some ad ∧ ad.block = i
theorem Well.wearOf (h : Well C B p f q s k K Q W T E V w d x) (i : Nat) : Calls Tryz.prog 32 #[.pointer (some ⟨p, 0, none⟩), .int .i64 (i : Int)] w fun e w' => e = .returned (.int .i64 (nm d.f.chip.wear i)) ∧ w' = w := by
  obtain ⟨⟨g, hs⟩, hf, _⟩ := h
  have := hs.dv.st.st.wear hf.sys.live.ok.ok (i : Int)
  rw [show mWear d.f.chip (i : Int) = nm d.f.chip.wear i by unfold mWear; rw [if_neg (by omega), Int.toNat_natCast]] at this
  exact this
theorem Well.counts (h : Well C B p f q s k K Q W T E V w d x) (k1 : 1 ≤ k) : Calls Tryz.prog 28 #[.pointer (some ⟨s, 0, none⟩)] w fun e w' => ∃ gc, e = .returned (.slice (some ⟨gc, 0, none⟩) k k) ∧ (∃ d', Well C B p f q s k K Q W T E V w' d' x ∧ d'.f.chip = d.f.chip) ∧ At w' gc 38 (Us (cntsOf x.bs)) ∧ w.heap.size ≤ gc ∧ Turned (May B K) w w' := by
  obtain ⟨⟨g, hs⟩, hf, hl, he, h0, h1, hv⟩ := h
  have hx : xLook d x = x := by
    unfold xLook
    rw [hf.sys.live.up, if_pos rfl, view_sc hf.sys.live.ok.ok.chip.words k1 hf.k2, ← hf.sys.view]
  have hc := look_chip hf.sys.live
  refine (hs.counts hf.sys.live.ok k1).mono ?_
  rw [hx]
  rintro e w1 ⟨gc, e1, hs1, hA, hg, t1⟩
  exact ⟨gc, e1, ⟨dLook d, ⟨hs1, hf.look, by rw [hc]; exact hl, by rw [hc]; exact he, by rw [look_t]; exact h0, by rw [look_t]; exact h1, hv⟩, hc⟩, hA, hg, t1⟩
end
set_option maxRecDepth 100000 in
set_option maxHeartbeats 8000000 in
theorem ftlHeads_walk (A : Option Addr) (n cap : Nat) (xs : List Act8) (w : World) (hr : ReadsA8 w A n cap xs) :
    Calls Tryz.prog 6 #[.slice A n cap] w fun e w' => e = .returned (.bool true) ∧ Below w.heap.size w w' := by
  have hle := hr.le
  have hmx := hr.max
  unfold maxLen at hmx
  have HR := Lib.hid hr
  clear hr
  go_enter Tryz.func6, Tryz.ntmps6
  go_upto_region 3 with (first
    | (go_at_call 10; (refine (alive8_any w).mono ?_); rintro e wa ⟨rfl, hBa⟩; have HBA := Lib.hid hBa; clear hBa))
  by_cases hn120 : 120 < n
  · have hn' : (120 : Int) < (n : Int) := by omega
    go_wp2
    go_ret
    exact ⟨rfl, HBA.out⟩
  have hn' : ¬ ((120 : Int) < (n : Int)) := by omega
  go_upto_region 6 with (first
    | (go_at_call 11; (refine (begin8_any (B := w.heap.size) 5 100000 wa HBA.out.size (by omega) (by omega) (by omega) (by omega)).mono ?_); rintro e w1 ⟨p, f, q, rfl, s0, b1⟩; have S1 : Hid (Dv w.heap.size p f q 5 NoBlock ⟨fNew (mNew 5 100000), 0⟩ w1) := Lib.hid s0; have B1 := Lib.hid (HBA.out.trans (b1.mono HBA.out.size)); clear s0 b1)
    | (refine wpList_stm (pre := []) (post := []) (xs := wd0) (ys := wdC p q) _ _ rfl rfl rfl rfl wd_size rfl rfl (wdC_one p q) rfl (by simp) (At.news w1 _ wd0) ?_; intro w2 A2 T2; rw [List.nil_append, List.append_nil] at A2; have HA2 := Lib.hid A2; have HB2 : Hid (Below w1.heap.size w1 w2) := Lib.hid (((Below.refl _ w1).alloc (Nat.le_refl _) _).trans (T2.below (fun i hi => by unfold Just at hi; omega) (by simp))); clear A2 T2))
  obtain ⟨bt, hbt⟩ : ∃ bt, bt = w1.heap.size := ⟨_, rfl⟩
  rw [← hbt] at HA2 ⊢
  have B2 := Lib.hid (B1.out.trans (HB2.out.mono B1.out.size))
  have HBT0 : Hid (w.heap.size ≤ bt) := Lib.hid (by rw [hbt]; exact B1.out.size)
  have S2 : Hid (Dv w.heap.size p f q 5 (Just bt) ⟨fNew (mNew 5 100000), 0⟩ w2) := Lib.hid (S1.out.move rfl (S := NoBlock) (fun _ e => e.elim) (Turned.of_below HB2.out (Nat.le_refl _) _) (fun i e => by unfold Just at e; rw [e]; exact ⟨.inr (by omega), HA2.out.lt⟩))
  have FO := Lib.hid (format_new (C := True) S2.out (by omega) (by omega) (by omega) (by omega))
  have c1 : w2.cell? ⟨bt, 1, none⟩ = some (.pointer (some ⟨q, 0, none⟩)) := HA2.out.cell 1
  obtain ⟨s1, hs1⟩ : ∃ s1, s1 = w2.heap.size := ⟨_, rfl⟩
  rw [← hs1] at FO
  clear hbt hs1 S1
  go_upto_region 9 with (first
    | (go_at_call 12; (with_reducible refine FO.out.mono ?_); rintro e w3 ⟨rfl, ⟨d3, x3, s3⟩, t3⟩; have S3 := Lib.hid s3; have T3 := Lib.hid t3; clear s3 t3))
  have HA3 : Hid (At w3 bt 27 (wdC p q)) := Lib.hid (HA2.out.kept T3.out (fun e => e.2 rfl))
  have B3 := Lib.hid (B2.out.trans (mayB_below T3.out B2.out.size))
  clear c1 FO S2 HA2 B2
  go_wp2
  go_loopw [46] (fun i wr => ∃ (j : Nat) (d : DrvM) (x : StoM) (V : BitVec 32 → List (BitVec 32)), j ≤ n ∧ i = .int .i64 j ∧ Well True w.heap.size p f q s1 5 (Just bt) (j : Int) (1 + 40 * (j : Int)) (600 + 123000 * (j : Int)) 100000 V wr d x ∧ (∀ n, (V n).length = 4) ∧ At wr bt 27 (wdC p q) ∧ Below w.heap.size w wr) (fun i _ => n - (intOf i).toNat)
  case atStart => exact ⟨0, d3, x3, _, by omega, rfl, S3.out.grow (by omega) (by omega) (by omega), fun _ => d40_len, HA3.out, B3.out⟩
  case round =>
    obtain ⟨j, d, x, V, hj, rfl, hwell, hV, hA, hB⟩ := hrel
    have HWE := Lib.hid hwell
    have HV := Lib.hid hV
    have HA := Lib.hid hA
    have HB := Lib.hid hB
    clear hwell hV hA hB S3 HA3 B3 T3
    by_cases hlt : j < n
    · have j0 : (0 : Int) ≤ (j : Int) := by omega
      have j1 : (j : Int) < (n : Int) := by omega
      obtain ⟨g, off, y, rfl, hy, _, y0, y1, y2⟩ := (HR.out.kept HB.out).at_ hlt
      have HY := Lib.hid hy
      have HY8 : Hid (a8C y = [.int .u8 y.k, .int .i64 y.s, .int .u32 (U y.v)]) := Lib.hid rfl
      clear hy
      go_upto_region 14 with (first
        | (refine wpList_stm (pre := []) (post := []) (xs := a8Z) (ys := a8C y) _ _ rfl rfl rfl rfl a8_size rfl rfl (a8_one y) rfl (by simp) (At.news wr _ a8Z) ?_; intro w4 A4 T4; rw [List.nil_append, List.append_nil] at A4; have HA4 := Lib.hid A4; have HB4 : Hid (Below wr.heap.size wr w4) := Lib.hid (((Below.refl _ wr).alloc (Nat.le_refl _) _).trans (T4.below (fun i hi => by unfold Just at hi; omega) (by simp))); clear A4 T4))
      have DO := Lib.hid ((HWE.out.below HB4.out).act (by omega) (by omega) (by omega) (by omega) (by omega) (by omega) y HY.out)
      have z0 : w4.cell? ⟨wr.heap.size, 0, none⟩ = some (.int .u8 y.k) := HA4.out.cell 0
      have z1 : w4.cell? ⟨wr.heap.size, 1, none⟩ = some (.int .i64 y.s) := HA4.out.cell 1
      have z2 : w4.cell? ⟨wr.heap.size, 2, none⟩ = some (.int .u32 (U y.v)) := HA4.out.cell 2
      clear y0 y1 y2
      go_wp2_with (first
        | (go_at_call 16; (with_reducible refine DO.out.mono ?_); rintro e w5 ⟨rfl, ⟨d5, x5, s5⟩, t5⟩; have S5 := Lib.hid s5; have T5 := Lib.hid t5; clear s5 t5))
      go_roundw
      case rel =>
        have b4 := HB.out.trans (HB4.out.mono HB.out.size)
        exact ⟨j + 1, d5, x5, val8 5 y V, by omega, by go_num, S5.out.grow (by omega) (by omega) (by omega), fun n => val8_len 5 y V HV.out n, (HA.out.kept (Turned.of_below HB4.out (Nat.le_refl _) NoBlock) (fun h => h)).kept T5.out (fun e => e.2 rfl), b4.trans (mayB_below T5.out b4.size)⟩
      case measure => simp [intOf]; omega
    · obtain rfl : j = n := by omega
      have HWE' := Lib.hid (HWE.out.grow (Q' := 200) (W' := 9000) (T' := 20000000) (by omega) (by omega) (by omega))
      have hf := HWE'.out.fit
      have hval := HWE'.out.val
      have hbl : x.bs.length = 5 := hf.len
      have HSC1 : Hid ((scOf d.f.chip.ws).1 = x.bs) := Lib.hid (by rw [view_sc hf.sys.live.ok.ok.chip.words (by omega) hf.k2, ← hf.sys.view])
      have HSC2 : Hid ((scOf d.f.chip.ws).2 = 0) := Lib.hid (by
        have := hf.sys.live.ok.ok.chip.words
        unfold scOf
        rw [if_pos (by omega)])
      have HCW : Hid (∀ i, i < 5 → (bkN x.bs i).head = 1 ∧ U (bkN x.bs i).count = nm d.f.chip.wear i ∧ BlkOk (bkN x.bs i)) := Lib.hid (fun i hi => ⟨hf.head i hi, hf.cw trivial i hi, sys_okN hf.sys hi⟩)
      have HVAL : Hid (∀ s, V s = valOf.d4OfM (((best (cnt x.bs) s).map (·.p)).getD pg0)) := Lib.hid (fun s => by rw [← hval s]; rfl)
      have HBLN := Lib.hid hbl
      have WO := HWE'.out.wordsU
      rw [show 5 * 64 = 320 from rfl] at WO
      have HWO := Lib.hid WO
      have c3 : wr.cell? ⟨bt, 0, none⟩ = some (.pointer (some ⟨p, 0, none⟩)) := HA.out.cell 0
      obtain ⟨ws, hws⟩ : ∃ ws, ws = d.f.chip.ws := ⟨_, rfl⟩
      rw [← hws] at HSC1 HSC2 HWO
      have SWC : Hid (∀ (gw cw : Nat) (W : World), ReadsU W (some ⟨gw, 0, none⟩) 320 cw ws → Calls Tryz.prog 29 #[.slice (some ⟨gw, 0, none⟩) 320 cw] W fun e w' => ∃ B cap, e = .returned (.tuple #[.slice B 5 cap, .int .i64 0]) ∧ ReadsB w' B 5 cap x.bs ∧ (∀ ad, B = some ad → W.heap.size ≤ ad.block) ∧ Below W.heap.size W w') := Lib.hid (fun gw cw W h => by
        have := rwordsN_any _ _ _ _ W h
        rw [HSC1.out, HSC2.out, HBLN.out] at this
        exact this)
      clear hf hval hbl WO hws HWE
      go_upto_region 17 with (first
        | (go_at_call 30; (with_reducible refine HWO.out.mono ?_); rintro e w6 ⟨gw, cw, rfl, hw, hb6⟩; have HW6 := Lib.hid hw; have HB6 := Lib.hid hb6; clear hw hb6)
        | (go_at_call 29; (refine (SWC.out _ _ _ HW6.out).mono ?_); rintro e w7 ⟨BB, cB, rfl, hrb, hnb, hb7⟩; have HRB := Lib.hid hrb; have HNB := Lib.hid hnb; have HB7 := Lib.hid hb7; clear hrb hnb hb7))
      have HB67 : Hid (Below wr.heap.size wr w7) := Lib.hid (HB6.out.trans (HB7.out.mono HB6.out.size))
      have HW7 : Hid (Well True w.heap.size p f q s1 5 (fun i => i = bt ∨ InB BB i) 200 9000 20000000 100000 V w7 d x) := Lib.hid (HWE'.out.move (S := NoBlock) (fun _ e => e.elim) (Turned.of_below HB67.out (Nat.le_refl _) _) (fun i e => by
        rcases e with e | ⟨ad, e1, e2⟩
        · exact ⟨.inl e, by have := HA.out.lt; have := HB67.out.size; omega⟩
        · obtain ⟨g9, off9, e9, hlt9, _⟩ := HRB.out.cell (by omega)
          have h1 := HNB.out ad e1
          have h2 : ad.block = g9 := by
            rw [e1] at e9
            injection e9 with e9
            rw [e9]
          exact ⟨.inr (by have := HB6.out.size; omega), by omega⟩))
      have HA7 : Hid (At w7 bt 27 (wdC p q)) := Lib.hid (HA.out.kept (Turned.of_below HB67.out (Nat.le_refl _) NoBlock) (fun h => h))
      have B7 := Lib.hid (HB.out.trans (HB67.out.mono HB.out.size))
      have CO := Lib.hid (HW7.out.counts (by omega))
      clear HWO HW6 HB6 HB7 HB67 HWE' HA HB c3
      go_upto_region 18 with (first
        | (go_at_call 28; (with_reducible refine CO.out.mono ?_); rintro e w8 ⟨gc, rfl, ⟨d8, s8, hch⟩, hac, hgc, t8⟩; have HW8 := Lib.hid s8; have HAC := Lib.hid hac; have T8 := Lib.hid t8; have HGC := Lib.hid hgc; have HCH := Lib.hid hch; clear s8 hac hgc t8 hch))
      have HA8 : Hid (At w8 bt 27 (wdC p q)) := Lib.hid (HA7.out.kept T8.out (fun e => e.2 (.inl rfl)))
      have HRB8 := Lib.hid (HRB.out.turned T8.out (fun ad e h => h.2 (.inr ⟨ad, e, rfl⟩)))
      have B8 := Lib.hid (B7.out.trans (mayB_below T8.out B7.out.size))
      have OF := Lib.hid (rlofN_any _ _ _ _ _ HRB8.out (by omega))
      clear CO HW7 HA7 HRB B7 T8
      go_upto_region 21 with (first
        | (go_at_call 31; (refine OF.out.mono ?_); rintro e w9 ⟨BL, cL, rfl, hrl, hnl, hb9⟩; have HRL := Lib.hid hrl; have HNL := Lib.hid hnl; have HB9 := Lib.hid hb9; clear hrl hnl hb9))
      obtain ⟨m, hm⟩ : ∃ m, m = (lOf (cnt x.bs)).length := ⟨_, rfl⟩
      rw [← hm] at HRL ⊢
      have HML := Lib.hid hm
      have HW9 : Hid (Well True w.heap.size p f q s1 5 (fun i => i = bt ∨ (0 < m ∧ InB BL i)) 200 9000 20000000 100000 V w9 d8 x) := Lib.hid (HW8.out.move (S := NoBlock) (fun _ e => e.elim) (Turned.of_below HB9.out (Nat.le_refl _) _) (fun i e => by
        rcases e with e | ⟨h0, ad, e1, e2⟩
        · exact ⟨.inl (.inl e), by have := HA8.out.lt; have := HB9.out.size; omega⟩
        · have h1 := HNL.out ad e1
          obtain ⟨g9, off9, e9, hlt9, _⟩ := HRL.out.cell h0
          have h2 : ad.block = g9 := by
            rw [e1] at e9
            injection e9 with e9
            rw [e9]
          exact ⟨.inr (by omega), by omega⟩))
      have HA9 : Hid (At w9 bt 27 (wdC p q)) := Lib.hid (HA8.out.kept (Turned.of_below HB9.out (Nat.le_refl _) NoBlock) (fun h => h))
      have HAC9 : Hid (At w9 gc 38 (Us (cntsOf x.bs))) := Lib.hid (HAC.out.kept (Turned.of_below HB9.out (Nat.le_refl _) NoBlock) (fun h => h))
      have HRB9 := Lib.hid (HRB8.out.kept HB9.out)
      have B9 := Lib.hid (B8.out.trans (HB9.out.mono B8.out.size))
      clear hm HRB8 HAC HA8 HW8 HB9 B8 OF HNL HNB HGC
      go_wp2
      go_loopw [76] (fun i wr => ∃ j : Nat, j ≤ 5 ∧ i = .int .i64 j ∧ Below w9.heap.size w9 wr) (fun i _ => 5 - (intOf i).toNat)
      case atStart => exact ⟨0, by omega, rfl, Below.refl _ _⟩
      case round =>
        obtain ⟨j, hj, rfl, hb⟩ := hrel
        have HBR := Lib.hid hb
        clear hb
        by_cases hlt : j < 5
        · have j0 : (0 : Int) ≤ (j : Int) := by omega
          have j1 : (j : Int) < 5 := by omega
          obtain ⟨g, off, rfl, hg, hr⟩ := (HRB9.out.kept HBR.out).at_ hlt
          obtain ⟨b, hb⟩ : ∃ b, b = bkN x.bs j := ⟨_, rfl⟩
          obtain ⟨h1, h2, h3⟩ := HCW.out j hlt
          have hcn : (cntsOf x.bs)[j]? = some b.count := by
            unfold cntsOf
            rw [List.getElem?_map, bkN_get (by rw [HBLN.out]; exact hlt), hb]
            rfl
          rw [← hb] at hr h1 h2 h3
          have HR := Lib.hid hr
          have HBL := Lib.hid (bk_len h3)
          obtain ⟨cc, hcc⟩ : ∃ cc, cc = U b.count := ⟨_, rfl⟩
          have hc0 : 0 ≤ cc := by rw [hcc]; exact U_nonneg _
          have hc1 : cc ≤ 4294967295 := by rw [hcc]; have := U_lt b.count; omega
          have hwr : IntKind.i64.wrap cc = cc := by rw [IntKind.wrap_i64]; omega
          have HCC := Lib.hid hcc
          have HH1 := Lib.hid h1
          have HH2 := Lib.hid h2
          have HCN := Lib.hid hcn
          clear hr hg hb h1 h2 h3 hcn hcc
          go_upto_region 24 with (first
            | (refine wpList_ldr _ rfl rfl rfl Tryz.underlying72 rfl rbk_size HBL.out HR.out ?_)
            | (refine wpList_stm (pre := []) (post := []) (xs := bkC bk0) (ys := bkC b) _ _ rfl rfl rfl rfl rbk_size (by rfl) HBL.out (bk_one _) rfl (by simp) (At.news wr _ (bkC bk0)) ?_; intro v1 A1 T1; rw [List.nil_append, List.append_nil] at A1; have HA1 := Lib.hid A1; have HB1 : Hid (Below wr.heap.size wr v1) := Lib.hid (((Below.refl _ wr).alloc (Nat.le_refl _) _).trans (T1.below (fun i hi => by unfold Just at hi; omega) (by simp))); clear A1 T1))
          obtain ⟨bx, hbx⟩ : ∃ bx, bx = wr.heap.size := ⟨_, rfl⟩
          rw [← hbx] at HA1 ⊢
          have HB91 : Hid (Below w9.heap.size w9 v1) := Lib.hid (HBR.out.trans (HB1.out.mono HBR.out.size))
          have k0 : v1.cell? ⟨bx, 0, none⟩ = some (.int .i64 1) := by rw [← HH1.out]; exact HA1.out.cell 0
          have k1 : v1.cell? ⟨bx, 1, none⟩ = some (.int .u32 cc) := by rw [HCC.out]; exact HA1.out.cell 1
          have k2 : v1.cell? ⟨gc, j, none⟩ = some (.int .u32 cc) := by
            rw [HCC.out]
            have h1 := (HAC9.out.kept (Turned.of_below HB91.out (Nat.le_refl _) NoBlock) (fun h => h)).cell j
            rw [h1]
            unfold Us
            rw [List.getElem?_map, HCN.out]
            rfl
          have k3 : v1.cell? ⟨bt, 0, none⟩ = some (.pointer (some ⟨p, 0, none⟩)) := (HA9.out.kept (Turned.of_below HB91.out (Nat.le_refl _) NoBlock) (fun h => h)).cell 0
          have WEA : Hid (∀ nn, Calls Tryz.prog 32 #[.pointer (some ⟨p, 0, none⟩), .int .i64 (j : Int)] (v1.drewN nn) fun e w' => e = .returned (.int .i64 cc) ∧ w' = v1.drewN nn) := Lib.hid (fun nn => by
            have h1 := (HW9.out.below (HB91.out.trans ((below_drewN v1.heap.size v1 nn).mono HB91.out.size))).wearOf j
            rw [HCH.out, ← HH2.out, ← HCC.out] at h1
            exact h1)
          clear hbx HB1 HA1
          go_quiet ((go_at_call 32; exact Calls.quiet_of_same (WEA.out _)))
          rename_i nq _
          have HBQ : Hid (Below w9.heap.size w9 (v1.drewN nq)) := Lib.hid (HB91.out.trans ((below_drewN v1.heap.size v1 nq).mono HB91.out.size))
          go_wp2_with fail
          first
          | exact ⟨⟨j + 1, by omega, by go_num, HBQ.out⟩, by simp [intOf]; omega⟩
          | (go_roundw
             case rel => exact ⟨j + 1, by omega, by go_num, HBQ.out⟩
             case measure => simp [intOf]; omega)
        · obtain rfl : j = 5 := by omega
          have HWR := Lib.hid (HW9.out.below HBR.out)
          have SE := HWR.out.sectors
          rw [show secs 5 = 12 from rfl] at SE
          have HSE := Lib.hid SE
          have HRLR := Lib.hid (HRL.out.kept HBR.out)
          have BR := Lib.hid (B9.out.trans (HBR.out.mono B9.out.size))
          clear SE HW9 HRL B9 HBR HRB9 HAC9 HA9
          go_upto_region 28 with (first
            | (go_at_call 13; (with_reducible refine HSE.out.mono ?_); rintro e v2 ⟨rfl, hw⟩; obtain rfl := hw.symm))
          have rb0 := run_b0f
          go_loopw [106] (fun i wx => ∃ (j : Nat) (d' : DrvM), j ≤ 12 ∧ i = .int .i64 j ∧ Well True w.heap.size p f q s1 5 (fun i => i = bt ∨ (0 < m ∧ InB BL i)) 200 9000 20000000 100000 V wx d' x ∧ ReadsL wx BL m cL (lOf (cnt x.bs)) ∧ Below w.heap.size w wx) (fun i _ => 12 - (intOf i).toNat)
          case atStart => exact ⟨0, d8, by omega, rfl, HWR.out, HRLR.out, BR.out⟩
          case round =>
            obtain ⟨j, d', hj, rfl, hwell, hrl, hB⟩ := hrel
            have HWE := Lib.hid hwell
            have HRL := Lib.hid hrl
            have HB := Lib.hid hB
            clear hwell hrl hB HWR HRLR BR HSE
            by_cases hlt : j < 12
            · have j0 : (0 : Int) ≤ (j : Int) := by omega
              have j1 : (j : Int) < 12 := by omega
              have RD := HWE.out.read (by omega) (n := j) (by rw [show secs 5 = 12 from rfl]; exact j1)
              have hV := HVAL.out (BitVec.ofNat 32 j)
              have hU : U (BitVec.ofNat 32 j) = (j : Int) := U_ofNat j (by omega)
              have RF := fun W (hW : ReadsL W BL m cL (lOf (cnt x.bs))) => rlfind_any BL m cL (lOf (cnt x.bs)) (BitVec.ofNat 32 j) W hW (by have := cnt_len x.bs; have := of_len (cnt x.bs); rw [HBLN.out] at *; have := HML.out; omega)
              rw [of_find, hU] at RF
              clear hU
              cases hbe : best (cnt x.bs) (BitVec.ofNat 32 j) with
              | none =>
                rw [hbe] at hV RF
                rw [show V (BitVec.ofNat 32 j) = d40 from hV] at RD
                dsimp only [Option.getD, Option.isSome] at RF
                unfold plV at RF
                have HRD := Lib.hid RD
                have HRF := Lib.hid RF
                clear RD RF hV hbe
                go_upto_region 32 with (first
                  | (go_at_call 33; (with_reducible refine HRD.out.mono ?_); rintro e v3 ⟨rfl, ⟨d3', s3⟩, t3⟩; have HW3 := Lib.hid s3; have HT3 := Lib.hid t3; clear s3 t3)
                  | (refine wpList_stm (pre := []) (post := []) (xs := Us d40) (ys := Us d40) _ _ rfl rfl rfl rfl d4_size rfl rfl (Us_one _) rfl (by simp) (At.news v3 _ (Us d40)) ?_; intro v4 A4 T4; rw [List.nil_append, List.append_nil] at A4; have HA4 := Lib.hid A4; have HB4 : Hid (Below v3.heap.size v3 v4) := Lib.hid (((Below.refl _ v3).alloc (Nat.le_refl _) _).trans (T4.below (fun i hi => by unfold Just at hi; omega) (by simp))); have HRL4 := Lib.hid ((HRL.out.turned HT3.out (fun ad h0 e h => h.2 (.inr ⟨h0, ad, e, rfl⟩))).kept HB4.out); clear A4 T4)
                  | (go_at_call 34; (refine (HRF.out _ HRL4.out).mono ?_); rintro e v5 ⟨rfl, hb5⟩; have HB5 := Lib.hid hb5; clear hb5)
                  | (refine wpList_stm (pre := []) (post := []) (xs := plC pl0) (ys := plC pl0) _ _ rfl rfl rfl rfl rpl_size (by rfl) (plC_len _) (plC_one _) rfl (by simp) (At.news v5 _ (plC pl0)) ?_; intro v6 A6 T6; rw [List.nil_append, List.append_nil] at A6; have HA6 := Lib.hid A6; have HB6 : Hid (Below v5.heap.size v5 v6) := Lib.hid (((Below.refl _ v5).alloc (Nat.le_refl _) _).trans (T6.below (fun i hi => by unfold Just at hi; omega) (by simp))); clear A6 T6))
                obtain ⟨b16, h16⟩ : ∃ b16, b16 = v3.heap.size := ⟨_, rfl⟩
                obtain ⟨b18, h18⟩ : ∃ b18, b18 = v5.heap.size := ⟨_, rfl⟩
                rw [← h16] at HA4 ⊢
                rw [← h18] at HA6 ⊢
                have HB46 : Hid (Below v4.heap.size v4 v6) := Lib.hid (HB5.out.trans (HB6.out.mono HB5.out.size))
                clear h16 h18
                go_upto_region 33 with (first
                  | (refine wpList_stm (pre := []) (post := []) (xs := Us d40) (ys := Us d40) _ _ rfl rfl rfl rfl d4_size rfl rfl (Us_one _) rfl (by simp) (At.news v6 _ (Us d40)) ?_; intro v7 A7 T7; rw [List.nil_append, List.append_nil] at A7; have HA7 := Lib.hid A7; have HB7 : Hid (Below v6.heap.size v6 v7) := Lib.hid (((Below.refl _ v6).alloc (Nat.le_refl _) _).trans (T7.below (fun i hi => by unfold Just at hi; omega) (by simp))); clear A7 T7))
                obtain ⟨b20, h20⟩ : ∃ b20, b20 = v6.heap.size := ⟨_, rfl⟩
                rw [← h20] at HA7 ⊢
                have H20 := Lib.hid h20
                clear h20
                have HB47 : Hid (Below v4.heap.size v4 v7) := Lib.hid (HB46.out.trans (HB7.out.mono HB46.out.size))
                have HA47 : Hid (At v7 b16 67 (Us d40)) := Lib.hid (HA4.out.kept (Turned.of_below HB47.out (Nat.le_refl _) NoBlock) (fun h => h))
                have HB37 : Hid (Below v3.heap.size v3 v7) := Lib.hid (HB4.out.trans (HB47.out.mono HB4.out.size))
                have q0 : v7.cell? ⟨b16, 0, none⟩ = some (.int .u32 0) := HA47.out.cell 0
                have q1 : v7.cell? ⟨b16, 1, none⟩ = some (.int .u32 0) := HA47.out.cell 1
                have q2 : v7.cell? ⟨b16, 2, none⟩ = some (.int .u32 0) := HA47.out.cell 2
                have q3 : v7.cell? ⟨b16, 3, none⟩ = some (.int .u32 0) := HA47.out.cell 3
                have r0 : v7.cell? ⟨b20, 0, none⟩ = some (.int .u32 0) := HA7.out.cell 0
                have r1 : v7.cell? ⟨b20, 1, none⟩ = some (.int .u32 0) := HA7.out.cell 1
                have r2 : v7.cell? ⟨b20, 2, none⟩ = some (.int .u32 0) := HA7.out.cell 2
                have r3 : v7.cell? ⟨b20, 3, none⟩ = some (.int .u32 0) := HA7.out.cell 3
                go_wp2_with fail
                go_roundw
                case rel => exact ⟨j + 1, d3', by omega, by go_num, HW3.out.below HB37.out, HRL4.out.kept HB47.out, (HB.out.trans (mayB_below HT3.out HB.out.size)).trans (HB37.out.mono (HB.out.trans (mayB_below HT3.out HB.out.size)).size)⟩
                case measure => simp [intOf]; omega
              | some y =>
                obtain ⟨yb, yi, ⟨ys, yq, yg, e0, e1, e2, e3⟩⟩ := y
                rw [hbe] at hV RF
                rw [show V (BitVec.ofNat 32 j) = [e0, e1, e2, e3] from hV] at RD
                dsimp only [Option.getD, Option.isSome] at RF
                unfold plV at RF
                have HRD := Lib.hid RD
                have HRF := Lib.hid RF
                clear RD RF hV hbe
                go_upto_region 32 with (first
                  | (go_at_call 33; (with_reducible refine HRD.out.mono ?_); rintro e v3 ⟨rfl, ⟨d3', s3⟩, t3⟩; have HW3 := Lib.hid s3; have HT3 := Lib.hid t3; clear s3 t3)
                  | (refine wpList_stm (pre := []) (post := []) (xs := Us d40) (ys := Us [e0, e1, e2, e3]) _ _ rfl rfl rfl rfl d4_size rfl rfl (Us_one _) rfl (by simp) (At.news v3 _ (Us d40)) ?_; intro v4 A4 T4; rw [List.nil_append, List.append_nil] at A4; have HA4 := Lib.hid A4; have HB4 : Hid (Below v3.heap.size v3 v4) := Lib.hid (((Below.refl _ v3).alloc (Nat.le_refl _) _).trans (T4.below (fun i hi => by unfold Just at hi; omega) (by simp))); have HRL4 := Lib.hid ((HRL.out.turned HT3.out (fun ad h0 e h => h.2 (.inr ⟨h0, ad, e, rfl⟩))).kept HB4.out); clear A4 T4)
                  | (go_at_call 34; (refine (HRF.out _ HRL4.out).mono ?_); rintro e v5 ⟨rfl, hb5⟩; have HB5 := Lib.hid hb5; clear hb5)
                  | (refine wpList_stm (pre := []) (post := []) (xs := plC pl0) (ys := plC ⟨yb, yi, ⟨ys, yq, yg, e0, e1, e2, e3⟩⟩) _ _ rfl rfl rfl rfl rpl_size (by rfl) (plC_len _) (plC_one _) rfl (by simp) (At.news v5 _ (plC pl0)) ?_; intro v6 A6 T6; rw [List.nil_append, List.append_nil] at A6; have HA6 := Lib.hid A6; have HB6 : Hid (Below v5.heap.size v5 v6) := Lib.hid (((Below.refl _ v5).alloc (Nat.le_refl _) _).trans (T6.below (fun i hi => by unfold Just at hi; omega) (by simp))); clear A6 T6))
                obtain ⟨b16, h16⟩ : ∃ b16, b16 = v3.heap.size := ⟨_, rfl⟩
                obtain ⟨b18, h18⟩ : ∃ b18, b18 = v5.heap.size := ⟨_, rfl⟩
                rw [← h16] at HA4 ⊢
                rw [← h18] at HA6 ⊢
                have HB46 : Hid (Below v4.heap.size v4 v6) := Lib.hid (HB5.out.trans (HB6.out.mono HB5.out.size))
                clear h16 h18
                go_upto_region 33 with (first
                  | (refine wpList_stm (pre := []) (post := []) (xs := Us d40) (ys := Us d40) _ _ rfl rfl rfl rfl d4_size rfl rfl (Us_one _) rfl (by simp) (At.news v6 _ (Us d40)) ?_; intro v7 A7 T7; rw [List.nil_append, List.append_nil] at A7; have HA7 := Lib.hid A7; have HB7 : Hid (Below v6.heap.size v6 v7) := Lib.hid (((Below.refl _ v6).alloc (Nat.le_refl _) _).trans (T7.below (fun i hi => by unfold Just at hi; omega) (by simp))); clear A7 T7))
                obtain ⟨b20, h20⟩ : ∃ b20, b20 = v6.heap.size := ⟨_, rfl⟩
                rw [← h20] at HA7 ⊢
                have H20 := Lib.hid h20
                clear h20
                have HB47 : Hid (Below v4.heap.size v4 v7) := Lib.hid (HB46.out.trans (HB7.out.mono HB46.out.size))
                have HA47 : Hid (At v7 b16 67 (Us [e0, e1, e2, e3])) := Lib.hid (HA4.out.kept (Turned.of_below HB47.out (Nat.le_refl _) NoBlock) (fun h => h))
                have HB37 : Hid (Below v3.heap.size v3 v7) := Lib.hid (HB4.out.trans (HB47.out.mono HB4.out.size))
                have HA67 : Hid (At v7 b18 76 (plC ⟨yb, yi, ⟨ys, yq, yg, e0, e1, e2, e3⟩⟩)) := Lib.hid (HA6.out.kept (Turned.of_below HB7.out (Nat.le_refl _) NoBlock) (fun h => h))
                have s0 : v7.cell? ⟨b18, 5, none⟩ = some (.int .u32 (U e0)) := HA67.out.cell 5
                have s1' : v7.cell? ⟨b18, 6, none⟩ = some (.int .u32 (U e1)) := HA67.out.cell 6
                have s2 : v7.cell? ⟨b18, 7, none⟩ = some (.int .u32 (U e2)) := HA67.out.cell 7
                have s3 : v7.cell? ⟨b18, 8, none⟩ = some (.int .u32 (U e3)) := HA67.out.cell 8
                go_upto_region 35 with (first
                  | (refine wpList_stm (pre := []) (post := []) (xs := Us d40) (ys := Us [e0, e1, e2, e3]) _ _ rfl rfl rfl rfl d4_size rfl rfl (Us_one _) rfl (by simp) HA7.out ?_; intro v8 A8 T8; rw [List.nil_append, List.append_nil] at A8; have HA8 := Lib.hid A8; have HT8 := Lib.hid T8; clear A8 T8))
                have HB38 : Hid (Below v3.heap.size v3 v8) := Lib.hid (HB37.out.trans (HT8.out.below (fun i hi => by unfold Just at hi; have h1 := H20.out; have h2 := HB4.out.size; have h3 := HB46.out.size; omega) HB37.out.size))
                have HB48 : Hid (Below v4.heap.size v4 v8) := Lib.hid (HB47.out.trans (HT8.out.below (fun i hi => by unfold Just at hi; have h1 := H20.out; have h3 := HB46.out.size; omega) HB47.out.size))
                have HA48 : Hid (At v8 b16 67 (Us [e0, e1, e2, e3])) := Lib.hid (HA4.out.kept (Turned.of_below HB48.out (Nat.le_refl _) NoBlock) (fun h => h))
                have q0 : v8.cell? ⟨b16, 0, none⟩ = some (.int .u32 (U e0)) := HA48.out.cell 0
                have q1 : v8.cell? ⟨b16, 1, none⟩ = some (.int .u32 (U e1)) := HA48.out.cell 1
                have q2 : v8.cell? ⟨b16, 2, none⟩ = some (.int .u32 (U e2)) := HA48.out.cell 2
                have q3 : v8.cell? ⟨b16, 3, none⟩ = some (.int .u32 (U e3)) := HA48.out.cell 3
                have r0 : v8.cell? ⟨b20, 0, none⟩ = some (.int .u32 (U e0)) := HA8.out.cell 0
                have r1 : v8.cell? ⟨b20, 1, none⟩ = some (.int .u32 (U e1)) := HA8.out.cell 1
                have r2 : v8.cell? ⟨b20, 2, none⟩ = some (.int .u32 (U e2)) := HA8.out.cell 2
                have r3 : v8.cell? ⟨b20, 3, none⟩ = some (.int .u32 (U e3)) := HA8.out.cell 3
                clear s0 s1' s2 s3
                go_wp2_with fail
                go_roundw
                case rel => exact ⟨j + 1, d3', by omega, by go_num, HW3.out.below HB38.out, HRL4.out.kept HB48.out, (HB.out.trans (mayB_below HT3.out HB.out.size)).trans (HB38.out.mono (HB.out.trans (mayB_below HT3.out HB.out.size)).size)⟩
                case measure => simp [intOf]; omega
            · obtain rfl : j = 12 := by omega
              go_wp2
              go_ret
              exact ⟨rfl, HB.out⟩
end Go.Proofs.YtnfgpjfldgocaaaGreat
