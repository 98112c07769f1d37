/- The walk of layer ftl's statement FtlRanges: a sector that is none is told, and nothing is changed by it. -/
import Derived.Test.YtnfgpjfldgocaaaGreatFtl9
import Derived.Test.YtnfgpjfldgocaaaGreatLaw
import Derived.OpenShut
namespace Go.Proofs.YtnfgpjfldgocaaaGreat
open Go.RowKit Bm Go.Shelf

set_option maxRecDepth 100000 in
theorem run_b1r (x : BitVec 32) (w : World) : (Instr.build 67 #[(0, .int .u32 (U x))]).run Tryz.prog w = .ok (.agg #[.int .u32 (U x), .int .u32 0, .int .u32 0, .int .u32 0]) w := by
  generalize U x = x
  kernel_rfl
/-- In range a call begins like any other. -/
theorem begin_same (k : Nat) (d : DrvM) (x : StoM) (a b : Int) (h1 : ¬ (a < 0 ∨ secs k ≤ a)) (h2 : ¬ (b < 0 ∨ secs k ≤ b)) : mBegin k d x a = mBegin k d x b := by
  unfold mBegin
  rw [if_neg h1, if_neg h2]
theorem begin_out (k : Nat) (d : DrvM) (x : StoM) (a : Int) (h1 : a < 0 ∨ secs k ≤ a) : mBegin k d x a = (d, x, 10) := if_pos h1
section
variable {B p f q s k g : Nat} {K : Nat → Prop} {d : DrvM} {x : StoM} {w w' : World}
/-- A copy of the chip's words, in a row of its own. -/
def FreshW (ws : List (BitVec 32)) (n : Nat) (w : World) (e : Ending) (w' : World) : Prop :=
  ∃ g cap rest, e = .returned (.slice (some ⟨g, 0, none⟩) n cap) ∧ At w' g 38 (Us ws ++ rest) ∧ n ≤ cap ∧ w.heap.size ≤ g ∧ Below w.heap.size w w'
theorem Sto.words (h : Sto B p f q s k g K d x w) (ok : DrvOk k d) : Calls Tryz.prog 30 #[.pointer (some ⟨p, 0, none⟩)] w (FreshW d.f.chip.ws (k * 64) w) := by
  have hn := ok.ok.chip.words
  refine (h.dv.st.st.words ok.ok).mono ?_
  rintro e w' ⟨g, cap, rest, rfl, hA, hl, hm, hg, hB⟩
  rw [Us_length, hn]
  rw [List.length_append, Us_length, hn] at hl
  exact ⟨g, cap, rest, rfl, hA, by omega, hg, hB⟩
theorem words_cell {ws : List (BitVec 32)} {rest : List Value} {gw : Nat} (h : At w gw 38 (Us ws ++ rest)) {i : Nat} (hi : i < ws.length) : w.cell? ⟨gw, i, none⟩ = some (.int .u32 (U (wd ws i))) := by
  rw [h.cell, List.getElem?_append_left (by rw [Us_length]; exact hi), Us_get _ _ hi]
end

set_option maxRecDepth 100000 in
set_option maxHeartbeats 2000000 in
theorem ftlRanges_walk (a0 : Int) (b0 : (Lit.int .i64 a0).wf = true) (a1 : Int) (b1 : (Lit.int .u32 a1).wf = true) (w : World) :
    Calls Tryz.prog 8 #[.int .i64 a0, .int .u32 a1] w fun e w' => e = .returned (.bool true) ∧ Below w.heap.size w w' := by
  have c0 := bounds_i64 b0
  have c1 := bounds_u32 b1
  obtain ⟨v, rfl⟩ := U_of c1.1 (by omega)
  have C0 := Lib.hid c0
  clear b0 b1 c1 c0
  have rb1 := run_b1r v
  go_enter Tryz.func8, Tryz.ntmps8
  go_upto_region 3 with (first
    | (go_at_call 10; (refine (alive8_any w).mono ?_); rintro e wa ⟨rfl, hBa⟩; have HBA := Lib.hid hBa; clear hBa))
  go_upto_region 6 with (first
    | (go_at_call 11; (refine (begin8_any (B := w.heap.size) 5 100 wa HBA.out.size (by omega) (by omega) (by omega) (by omega)).mono ?_); rintro e w1 ⟨p, f, q, rfl, s0, b1⟩; have S1 : Hid (Dv w.heap.size p f q 5 NoBlock fa0 w1) := Lib.hid s0; have B1 := Lib.hid (HBA.out.trans (b1.mono HBA.out.size)); clear s0 b1)
    | (refine wpList_stm (pre := []) (post := []) (xs := wd0) (ys := wdC p q) _ _ rfl rfl rfl rfl wd_size rfl rfl (by simp [wdC, Value.oneCell']) rfl (by simp) (At.news w1 _ wd0) ?_; intro w2 A2 T2; rw [List.nil_append, List.append_nil] at A2; have HA2 := Lib.hid A2; have HB2 : Hid (Below w1.heap.size w1 w2) := Lib.hid (((Below.refl _ w1).alloc (Nat.le_refl _) _).trans (T2.below (fun i hi => by unfold Just at hi; omega) (by simp))); clear A2 T2))
  obtain ⟨bt, hbt⟩ : ∃ bt, bt = w1.heap.size := ⟨_, rfl⟩
  rw [← hbt] at HA2 ⊢
  have B2 := Lib.hid (B1.out.trans (HB2.out.mono B1.out.size))
  have S2 : Hid (Dv w.heap.size p f q 5 (Just bt) fa0 w2) := Lib.hid (S1.out.move rfl (S := NoBlock) (fun _ e => e.elim) (Turned.of_below HB2.out (Nat.le_refl _) _) (fun i e => by unfold Just at e; rw [e]; exact ⟨.inr (by omega), HA2.out.lt⟩))
  have FO : Hid (Calls Tryz.prog 12 #[.pointer (some ⟨q, 0, none⟩)] w2 fun e w' => e = .returned (.tuple #[.pointer (some ⟨w2.heap.size, 0, none⟩), .int .i64 0]) ∧ (∃ g, Sto w.heap.size p f q w2.heap.size 5 g (Just bt) fR1.1 fR1.2.1 w') ∧ Turned (May w.heap.size (Just bt)) w2 w') := Lib.hid ((S2.out.format fa0_ok (by omega) (by omega) rfl (by decide) (by decide)).mono fun e w' h => h.ok fR1_e)
  have c1 : w2.cell? ⟨bt, 1, none⟩ = some (.pointer (some ⟨q, 0, none⟩)) := HA2.out.cell 1
  obtain ⟨s1, hs1⟩ : ∃ s1, s1 = w2.heap.size := ⟨_, rfl⟩
  rw [← hs1] at FO
  clear hbt hs1 S1
  go_upto_region 9 with (first
    | (go_at_call 12; (with_reducible refine FO.out.mono ?_); rintro e w3 ⟨rfl, ⟨g3, s3⟩, t3⟩; have S3 := Lib.hid s3; have T3 := Lib.hid t3; clear s3 t3))
  have HA3 : Hid (At w3 bt 27 (wdC p q)) := Lib.hid (HA2.out.kept T3.out (fun e => e.2 rfl))
  have c3 : w3.cell? ⟨bt, 0, none⟩ = some (.pointer (some ⟨p, 0, none⟩)) := HA3.out.cell 0
  have WD := Lib.hid (S3.out.words fR1_ok)
  have B3 := Lib.hid (B2.out.trans (mayB_below T3.out B2.out.size))
  clear c1 FO
  go_upto_region 10 with (first
    | (go_at_call 30; (with_reducible refine WD.out.mono ?_); rintro e w4 ⟨gw, cw, rw4, rfl, hw, hcw, hgw, hb4⟩; have HW := Lib.hid hw; have HB4 := Lib.hid hb4; have HCW := Lib.hid (show 320 ≤ cw from hcw); have HGW := Lib.hid hgw; clear hw hb4 hcw hgw))
  obtain ⟨K2, hK2⟩ : ∃ K2 : Nat → Prop, K2 = fun i => i = bt ∨ i = gw := ⟨_, rfl⟩
  have HK1 : Hid (K2 bt) := Lib.hid (by rw [hK2]; exact .inl rfl)
  have HK2 : Hid (K2 gw) := Lib.hid (by rw [hK2]; exact .inr rfl)
  have S4 : Hid (Sto w.heap.size p f q s1 5 g3 K2 fR1.1 fR1.2.1 w4) := Lib.hid (S3.out.renew fR1_ok.calm.job HB4.out (fun i e => by
    rw [hK2] at e
    rcases e with rfl | rfl
    · exact ⟨.inl rfl, Nat.lt_of_lt_of_le HA3.out.lt HB4.out.size⟩
    · exact ⟨.inr HGW.out, HW.out.lt⟩))
  have HA4 : Hid (At w4 bt 27 (wdC p q)) := Lib.hid (HA3.out.kept (Turned.of_below HB4.out (Nat.le_refl _) NoBlock) (fun h => h))
  have B4 := Lib.hid (B3.out.trans (HB4.out.mono B3.out.size))
  have RD := Lib.hid (S4.out.read fR1_ok (by omega) a0 C0.out.1 (by have := C0.out.2; omega))
  clear hK2 WD c3 S3 HA3 HGW
  obtain ⟨ws, hws⟩ : ∃ ws, ws = fR1.1.f.chip.ws := ⟨_, rfl⟩
  have HWL : Hid (ws.length = 320) := Lib.hid (by rw [hws]; exact fR1_ok.ok.chip.words)
  have HWS := Lib.hid hws
  rw [← hws] at HW
  clear hws
  obtain ⟨rd, hrd⟩ : ∃ rd, rd = rdM 5 fR1.1 fR1.2.1 a0 := ⟨_, rfl⟩
  have HRL : Hid (rd.length = 4) := Lib.hid (by rw [hrd]; unfold rdM; split <;> rfl)
  rw [← hrd] at RD
  clear hrd
  by_cases hin : 0 ≤ a0 ∧ a0 < 12
  · have h2 := hin.1
    have h3 := hin.2
    rw [begin_same 5 fR1.1 fR1.2.1 a0 3 (by unfold secs; omega) (by unfold secs; omega), show mBegin 5 fR1.1 fR1.2.1 3 = fB2 from rfl, fB2_e] at RD
    clear hin C0
    go_upto_region 11 with (first
      | (go_at_call 33; (with_reducible refine RD.out.mono ?_); rintro e w5 ⟨rfl, ⟨g5, s5⟩, t5⟩; have T5 := Lib.hid t5; clear s5 t5)
      | (refine wpList_stm (pre := []) (post := []) (xs := Us d40) (ys := Us rd) _ _ rfl rfl rfl rfl d4_size rfl (by rw [Us_length]; exact HRL.out) (Us_one _) rfl (by simp) (At.news w5 _ (Us d40)) ?_; intro w6 A6 T6; have HB6 : Hid (Below w5.heap.size w5 w6) := Lib.hid (((Below.refl _ w5).alloc (Nat.le_refl _) _).trans (T6.below (fun i hi => by unfold Just at hi; omega) (by simp))); clear A6 T6))
    have B6 : Hid (Below w.heap.size w w6) := Lib.hid (by
      have h1 := B4.out.trans (mayB_below T5.out B4.out.size)
      exact h1.trans (HB6.out.mono h1.size))
    go_wp2
    go_ret
    exact ⟨rfl, B6.out⟩
  · have hout : a0 < 0 ∨ 12 ≤ a0 := by omega
    have HOUT : Hid (mBegin 5 fR1.1 fR1.2.1 a0 = (fR1.1, fR1.2.1, 10)) := Lib.hid (begin_out 5 fR1.1 fR1.2.1 a0 hout)
    have HO := Lib.hid hout
    rw [HOUT.out] at RD
    dsimp only at RD
    clear hin hout
    go_upto_region 11 with (first
      | (go_at_call 33; (with_reducible refine RD.out.mono ?_); rintro e w5 ⟨rfl, ⟨g5, s5⟩, t5⟩; have S5 : Hid (Sto w.heap.size p f q s1 5 g5 K2 fR1.1 fR1.2.1 w5) := Lib.hid s5; have T5 := Lib.hid t5; clear s5 t5)
      | (refine wpList_stm (pre := []) (post := []) (xs := Us d40) (ys := Us rd) _ _ rfl rfl rfl rfl d4_size rfl (by rw [Us_length]; exact HRL.out) (Us_one _) rfl (by simp) (At.news w5 _ (Us d40)) ?_; intro w6 A6 T6; have HB6 : Hid (Below w5.heap.size w5 w6) := Lib.hid (((Below.refl _ w5).alloc (Nat.le_refl _) _).trans (T6.below (fun i hi => by unfold Just at hi; omega) (by simp))); clear A6 T6))
    have S6 := Lib.hid (S5.out.below HB6.out)
    have WR := Lib.hid (S6.out.write (v0 := v) (v1 := 0#32) (v2 := 0#32) (v3 := 0#32) fR1_ok (by omega) (by omega) a0 C0.out.1 (by have := C0.out.2; omega) (n := 0) (R := fR3) (fun h => by rw [HOUT.out] at h; exact absurd h (by decide)) (fun h => by rw [HOUT.out] at h; exact absurd h (by decide)) fR1_t.1 (by have := fR1_t.2; omega))
    have HCH : Hid (mChg 5 fR1.1 fR1.2.1 a0 fR3 = (fR1.1, fR1.2.1, 10)) := Lib.hid (by unfold mChg; rw [HOUT.out]; exact if_neg (by decide))
    rw [HCH.out, show U 0#32 = 0 from rfl] at WR
    have TR := Lib.hid (fun W g' (hs : Sto w.heap.size p f q s1 5 g' K2 fR1.1 fR1.2.1 W) => hs.trim fR1_ok (by omega) (by omega) a0 C0.out.1 (by have := C0.out.2; omega) (n := 0) (R := fR3) (fun h => by rw [HOUT.out] at h; exact absurd h (by decide)) (fun h => by rw [HOUT.out] at h; exact absurd h (by decide)) fR1_t.1 (by have := fR1_t.2; omega))
    rw [HCH.out] at TR
    unfold StoOut at WR TR
    dsimp only at WR TR
    have T6 : Hid (Turned (May w.heap.size K2) w4 w6) := Lib.hid (T5.out.trans (Turned.of_below HB6.out (Nat.le_refl _) _))
    clear RD C0
    have h11 : (¬ (0 ≤ a0)) ∨ (0 ≤ a0 ∧ ¬ (a0 < 12)) := by have := HO.out; omega
    rcases h11 with h | ⟨h, h'⟩
    · go_upto_region 14 with (first
        | (go_at_call 35; (with_reducible refine WR.out.mono ?_); rintro e w7 ⟨rfl, ⟨g7, s7⟩, t7⟩; have S7 := Lib.hid s7; have T7 := Lib.hid t7; clear s7 t7)
        | (go_at_call 36; (with_reducible refine (TR.out _ _ S7.out).mono ?_); rintro e w8 ⟨rfl, ⟨g8, s8⟩, t8⟩; have S8 := Lib.hid s8; have T8 := Lib.hid t8; clear s8 t8))
      have T48 : Hid (Turned (May w.heap.size K2) w4 w8) := Lib.hid (T6.out.trans (T7.out.trans T8.out))
      have HA8 : Hid (At w8 bt 27 (wdC p q)) := Lib.hid (HA4.out.kept T48.out (fun e => e.2 HK1.out))
      have HW8 : Hid (At w8 gw 38 (Us ws ++ rw4)) := Lib.hid (HW.out.kept T48.out (fun e => e.2 HK2.out))
      have c8 : w8.cell? ⟨bt, 0, none⟩ = some (.pointer (some ⟨p, 0, none⟩)) := HA8.out.cell 0
      have WD := S8.out.words fR1_ok
      rw [← HWS.out, show 5 * 64 = 320 from rfl] at WD
      have WD8 := Lib.hid WD
      have B8 := Lib.hid (B4.out.trans (mayB_below T48.out B4.out.size))
      have HZ8 : Hid (gw < w8.heap.size) := Lib.hid HW8.out.lt
      clear WD WR TR S8 S7 S6 T7 T8 T6
      go_wp2_with (first
        | (go_at_call 30; (with_reducible refine WD8.out.mono ?_); rintro e w9 ⟨gv, cv, rv, rfl, hv, hcv, hgv, hb9⟩; have HV := Lib.hid hv; have HB9 := Lib.hid hb9; clear hv hb9 hcv hgv))
      have HW9 : Hid (At w9 gw 38 (Us ws ++ rw4)) := Lib.hid (HW8.out.kept (Turned.of_below HB9.out (Nat.le_refl _) NoBlock) (fun h => h))
      have B9 := Lib.hid (B8.out.trans (HB9.out.mono B8.out.size))
      clear c8
      go_loopw [65] (fun i wr => ∃ j : Nat, j ≤ 320 ∧ i = .int .i64 j ∧ wr = w9) (fun i _ => 320 - (intOf i).toNat)
      case atStart => exact ⟨0, by omega, rfl, rfl⟩
      case round =>
        obtain ⟨j, hj, rfl, rfl⟩ := hrel
        by_cases hlt : j < 320
        · have j0 : (0 : Int) ≤ (j : Int) := by omega
          have j1 : (j : Int) < 320 := by omega
          have x1 := words_cell HV.out (i := j) (by rw [HWL.out]; exact hlt)
          have x2 := words_cell HW9.out (i := j) (by rw [HWL.out]; exact hlt)
          generalize U (wd ws j) = y at x1 x2
          go_wp2
          exact ⟨⟨j + 1, by omega, by go_num, by first | rfl | trivial⟩, by simp [intOf]; omega⟩
        · obtain rfl : j = 320 := by omega
          go_wp2
          go_ret
          exact ⟨rfl, B9.out⟩
    · go_upto_region 14 with (first
        | (go_at_call 35; (with_reducible refine WR.out.mono ?_); rintro e w7 ⟨rfl, ⟨g7, s7⟩, t7⟩; have S7 := Lib.hid s7; have T7 := Lib.hid t7; clear s7 t7)
        | (go_at_call 36; (with_reducible refine (TR.out _ _ S7.out).mono ?_); rintro e w8 ⟨rfl, ⟨g8, s8⟩, t8⟩; have S8 := Lib.hid s8; have T8 := Lib.hid t8; clear s8 t8))
      have T48 : Hid (Turned (May w.heap.size K2) w4 w8) := Lib.hid (T6.out.trans (T7.out.trans T8.out))
      have HA8 : Hid (At w8 bt 27 (wdC p q)) := Lib.hid (HA4.out.kept T48.out (fun e => e.2 HK1.out))
      have HW8 : Hid (At w8 gw 38 (Us ws ++ rw4)) := Lib.hid (HW.out.kept T48.out (fun e => e.2 HK2.out))
      have c8 : w8.cell? ⟨bt, 0, none⟩ = some (.pointer (some ⟨p, 0, none⟩)) := HA8.out.cell 0
      have WD := S8.out.words fR1_ok
      rw [← HWS.out, show 5 * 64 = 320 from rfl] at WD
      have WD8 := Lib.hid WD
      have B8 := Lib.hid (B4.out.trans (mayB_below T48.out B4.out.size))
      have HZ8 : Hid (gw < w8.heap.size) := Lib.hid HW8.out.lt
      clear WD WR TR S8 S7 S6 T7 T8 T6
      go_wp2_with (first
        | (go_at_call 30; (with_reducible refine WD8.out.mono ?_); rintro e w9 ⟨gv, cv, rv, rfl, hv, hcv, hgv, hb9⟩; have HV := Lib.hid hv; have HB9 := Lib.hid hb9; clear hv hb9 hcv hgv))
      have HW9 : Hid (At w9 gw 38 (Us ws ++ rw4)) := Lib.hid (HW8.out.kept (Turned.of_below HB9.out (Nat.le_refl _) NoBlock) (fun h => h))
      have B9 := Lib.hid (B8.out.trans (HB9.out.mono B8.out.size))
      clear c8
      go_loopw [65] (fun i wr => ∃ j : Nat, j ≤ 320 ∧ i = .int .i64 j ∧ wr = w9) (fun i _ => 320 - (intOf i).toNat)
      case atStart => exact ⟨0, by omega, rfl, rfl⟩
      case round =>
        obtain ⟨j, hj, rfl, rfl⟩ := hrel
        by_cases hlt : j < 320
        · have j0 : (0 : Int) ≤ (j : Int) := by omega
          have j1 : (j : Int) < 320 := by omega
          have x1 := words_cell HV.out (i := j) (by rw [HWL.out]; exact hlt)
          have x2 := words_cell HW9.out (i := j) (by rw [HWL.out]; exact hlt)
          generalize U (wd ws j) = y at x1 x2
          go_wp2
          exact ⟨⟨j + 1, by omega, by go_num, by first | rfl | trivial⟩, by simp [intOf]; omega⟩
        · obtain rfl : j = 320 := by omega
          go_wp2
          go_ret
          exact ⟨rfl, B9.out⟩
end Go.Proofs.YtnfgpjfldgocaaaGreat
