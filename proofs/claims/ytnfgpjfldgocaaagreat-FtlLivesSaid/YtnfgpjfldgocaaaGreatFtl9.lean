import Derived.Test.YtnfgpjfldgocaaaGreatFtl8
namespace Go.Proofs.YtnfgpjfldgocaaaGreat
section
open Go.RowKit Bm Go.Shelf
section
variable {B B0 p f q k bx : Nat} {K : Nat -> Prop} {d : DrvM} {w w' : World}
theorem Dv.lower (h : Dv B0 p f q k NoBlock d w) (hB : B <= bx) (hb : bx < B0) : Dv B p f q k (Just bx) d w := by
 obtain ⟨⟨⟨x, hp, hf, hx, ho⟩, hs, hk⟩, hw, hq⟩ := h
 refine ⟨⟨⟨x, hp, hf, hx, fun i hi => ?_⟩, by omega, fun i e => ?_⟩, hw, ⟨by have := hq.1; omega, fun e => by have := hq.1; unfold Just at e; omega⟩⟩
 ·have h1 := ho i hi
  refine ⟨by have := h1.1; omega, fun e => ?_⟩
  rcases e with e | e
  ·have := h1.1
   unfold Just at e
   omega
  ·exact h1.2 (.inr e)
 ·rcases e with e | e
  ·unfold Just at e
   omega
  ·exact hk i (.inr e)
def wdC (p q : Nat) : List Value := [.pointer (some ⟨p, 0, none⟩), .pointer (some ⟨q, 0, none⟩)]
def wd0 : List Value := [.pointer none, .pointer none]
theorem wd_size : (Tryz.prog.info? 27).map (·.size) = some 2 := by kernel_rfl
theorem wd_res2 {fn : Func} {i j : Tmp} (h : fn.results = #[.cell i 27, .tmp j]) (tmps : Array Value) {w : World} {g : Nat} {cs : List Value} {v : Value} (hp : tmps.getD i undef = .pointer (some ⟨g, 0, none⟩)) (hq : tmps.getD j undef = v) (hA : At w g 27 cs) (hn : cs.length = 2) :
  (results fn tmps).run Tryz.prog w = .ok (.tuple #[.agg cs.toArray, v]) w := by
 have hp' : tmps[i]?.getD undef = .pointer (some ⟨g, 0, none⟩) := by simpa using hp
 have hq' : tmps[j]?.getD undef = v := by simpa using hq
 simp [results, h, hp', hq', asAddr, run_loadVar_row (P := Tryz.prog) w g 27 27 cs.toArray (0, 0) _ hA Tryz.underlying27 rfl (by rw [wd_size]; simp [hn])]
def MadeW (B k : Nat) (d : DrvM) (w : World) (e : Ending) (w' : World) : Prop :=
 ∃ p f q, e = .returned (.tuple #[.agg #[.pointer (some ⟨p, 0, none⟩), .pointer (some ⟨q, 0, none⟩)], .bool true]) /\ Dv B p f q k NoBlock d w' /\ Below w.heap.size w w'
set_option maxRecDepth 100000 in
set_option maxHeartbeats 1000000 in
theorem begin8_any (k : Nat) (endure : Int) (w : World) (hB : B <= w.heap.size) (k1 : 1 <= k) (k2 : k <= 64) (e0 : 0 <= endure) (e1 : endure <= 9223372036854775807) :
  Calls Tryz.prog 11 #[.int .i64 k, .int .i64 endure] w (MadeW B k ⟨fNew (mNew k endure), 0⟩ w) := by
 obtain ⟨W0, hW0⟩ : ∃ W0, W0 = w.alloc (.cells #[.pointer none, .pointer none] 27) := ⟨_, rfl⟩
 have hW0' := hW0.symm
 have A0 : At W0 w.heap.size 27 wd0 := by rw [hW0]; exact At.news w _ _
 have B0 : Below w.heap.size w W0 := by rw [hW0]; exact (Below.refl _ w).alloc (Nat.le_refl _) _
 have Z0 : W0.heap.size = w.heap.size + 1 := by rw [hW0]; simp
 have hl : 1 <= (mNew k endure).wear.length := by simp [mNew, mOf]; omega
 have hok := newOk k endure k1 k2 e0 e1
 have hn := new_yes k endure W0 k1 k2 e0 e1
 obtain ⟨c, hc⟩ : ∃ c, c = mNew k endure := ⟨_, rfl⟩
 rw [<- hc] at hl hn hok ⊢
 have HN := Lib.hid hn
 have HL := Lib.hid hl
 have HOK := Lib.hid hok
 have HA0 := Lib.hid A0
 have HB0 := Lib.hid B0
 have HZ0 := Lib.hid Z0
 have HBB := Lib.hid hB
 obtain ⟨bx, hbx⟩ : ∃ bx, bx = w.heap.size := ⟨_, rfl⟩
 rw [<- hbx] at HA0 HZ0
 have HBX := Lib.hid hbx
 clear hn hl hok k1 k2 e0 e1 A0 B0 Z0 hc hW0 hbx hB
 go_enter Tryz.func11, Tryz.ntmps11
 go_upto_region 1 with (fail)
 rw [<- HBX.out]
 clear hW0'
 go_upto_region 2 with (first
  | (go_at_call 37; (with_reducible refine HN.out.mono ?_); rintro e w1 ⟨h, rfl, hc, ho, hB⟩; have HC := Lib.hid hc; have HO := Lib.hid ho; have HB1 := Lib.hid hB; clear hc ho hB))
 have FN := Lib.hid (fnew_any h c w1 HC.out HL.out)
 go_upto_region 5 with (first
  | (go_at_call 38; (with_reducible refine FN.out.mono ?_); rintro e w2 ⟨f, l, rfl, x2, hf, hl2, hB2⟩; have X2 := Lib.hid x2; have HF := Lib.hid hf; have HL2 := Lib.hid hl2; have HB2 := Lib.hid hB2; clear x2 hf hl2 hB2))
 have HS2 : Hid (St W0.heap.size h.p f (fNew c) w2) := Lib.hid (by
  refine ⟨⟨⟨h, f, l, 0, 0, 0⟩, rfl, rfl, X2.out, fun i hi => ?_⟩, Nat.le_trans HB1.out.size HB2.out.size⟩
  have h1 := HB1.out.size
  have h2 := HF.out
  have h3 := HL2.out
  rcases hi with e | e | e
  ·exact HO.out i e
  ·simp only at e; omega
  ·simp only at e; omega)
 have DN := Lib.hid (dnew_any W0.heap.size h.p f k (fNew c) w2 HS2.out HOK.out)
 go_upto_region 8 with (first
  | (go_at_call 39; (with_reducible refine DN.out.mono ?_); rintro e w3 ⟨q, rfl, s3, hB3⟩; have HS3 := Lib.hid s3; have HB3 := Lib.hid hB3; clear s3 hB3))
 have HB13 : Hid (Below W0.heap.size W0 w3) := Lib.hid (HB1.out.trans ((HB2.out.mono HB1.out.size).trans (HB3.out.mono (Nat.le_trans HB1.out.size HB2.out.size))))
 have HA3 : Hid (At w3 bx 27 wd0) := Lib.hid (HA0.out.kept (Turned.of_below HB13.out (Nat.le_refl _) NoBlock) (fun h => h))
 go_wp2_with (first
  | (refine wpList_stm (pre := []) (post := []) (xs := wd0) (ys := wdC h.p q) _ _ rfl rfl rfl rfl wd_size rfl rfl (by simp [wdC, Value.oneCell']) rfl (by simp) HA3.out ?_; intro w5 A5 T5; rw [List.nil_append, List.append_nil] at A5; have HA5 := Lib.hid A5; have HT5 := Lib.hid T5; clear A5 T5))
 refine bodyPost_ret (wd_res2 (cs := wdC h.p q) Tryz.results11 _ rfl rfl HA5.out rfl) rfl ⟨h.p, f, q, rfl, ?_, ?_⟩
 ·have h1 := HS3.out.lower (B := B) (bx := bx) (by rw [HBX.out]; exact HBB.out) (by have := HZ0.out; omega)
  exact (h1.lones rfl (S := Just bx) (fun i e => e) HT5.out).less (fun _ e => e.elim)
 ·exact (HB0.out.trans (HB13.out.mono HB0.out.size)).trans (HT5.out.below (fun i hi => by unfold Just at hi; have := HBX.out; omega) (HB0.out.trans (HB13.out.mono HB0.out.size)).size)
end
end
section
open Go.RowKit Bm Go.Shelf
def fa0 : DrvM := ⟨fNew (mNew 5 100), 0⟩
def fR1 : DrvM × StoM × Int := mRenews (dLook fa0) (x0 fa0.f.chip.ws) (List.range 5)
def fB2 : DrvM × StoM × Int := mBegin 5 fR1.1 fR1.2.1 3
def fP : PageM := { pgW 1#32 2#32 3#32 4#32 with s := BitVec.ofNat 32 (3 : Int).toNat }
def fR3 : DrvM × StoM × Int := mLast fB2.1 fB2.2.1 fP
def fR4 : DrvM × StoM × Int := mChg 5 fR1.1 fR1.2.1 3 fR3
def fR5 : DrvM × StoM × Int := mFix (dLook fR4.1) (x0 fR4.1.f.chip.ws) (List.range 5)
def fB6 : DrvM × StoM × Int := mBegin 5 fR5.1 fR5.2.1 3
def fB7 : DrvM × StoM × Int := mBegin 5 fB6.1 fB6.2.1 12
theorem fAll : fR1.2.2 = 0 /\ fB2.2.2 = 0 /\ (wayM 5 fB2.2.1 (allG fB2.2.1.bs) fP.s).2 = false /\ fR3.2.2 = 0 /\ (0 <= fR4.1.t /\ fR4.1.t <= 1000) /\ fR4.1.f.chip.up = true /\ fR5.2.2 = 0 /\ fR5.2.1.bs.any bkEmpty = true /\ fB6.2.2 = 0 /\ rdM 5 fR5.1 fR5.2.1 3 = [1#32, 2#32, 3#32, 4#32] /\ fB7.2.2 = 10 /\ nTrue fB7.2.1.ret 64 = 0 := by decide +kernel
theorem fR1_e : fR1.2.2 = 0 := fAll.1
theorem fB2_e : fB2.2.2 = 0 := fAll.2.1
theorem fW2_e : (wayM 5 fB2.2.1 (allG fB2.2.1.bs) fP.s).2 = false := fAll.2.2.1
theorem fR3_e : fR3.2.2 = 0 := fAll.2.2.2.1
theorem fR4_t : (0 <= fR4.1.t /\ fR4.1.t <= 1000) := fAll.2.2.2.2.1
theorem fR4_u : fR4.1.f.chip.up = true := fAll.2.2.2.2.2.1
theorem fR5_e : fR5.2.2 = 0 := fAll.2.2.2.2.2.2.1
theorem fR5_m : fR5.2.1.bs.any bkEmpty = true := fAll.2.2.2.2.2.2.2.1
theorem fB6_e : fB6.2.2 = 0 := fAll.2.2.2.2.2.2.2.2.1
theorem fRd_e : rdM 5 fR5.1 fR5.2.1 3 = [1#32, 2#32, 3#32, 4#32] := fAll.2.2.2.2.2.2.2.2.2.1
theorem fB7_e : fB7.2.2 = 10 := fAll.2.2.2.2.2.2.2.2.2.2.1
theorem fB7_n : nTrue fB7.2.1.ret 64 = 0 := fAll.2.2.2.2.2.2.2.2.2.2.2
end
section
open Go.RowKit Bm Go.Shelf
section
variable {B p f q s k : Nat} {K : Nat -> Prop} {R : DrvM × StoM × Int} {w w' : World} {e : Ending}
theorem OpenOut.ok (h : OpenOut B p f q s k K R w e w') (h0 : R.2.2 = 0) : e = .returned (.tuple #[.pointer (some ⟨s, 0, none⟩), .int .i64 0]) /\ (∃ g, Sto B p f q s k g K R.1 R.2.1 w') /\ Turned (May B K) w w' := by
 obtain ⟨h1, h2, h3⟩ := h
 rw [h0, if_pos rfl] at h1
 exact ⟨h1, h2, h3⟩
end
theorem mayB_below {B : Nat} {K : Nat -> Prop} {w w' : World} (t : Turned (May B K) w w') (hB : B <= w.heap.size) : Below B w w' := t.below (fun _ h => h.1) hB
theorem fa0_ok : DrvOk 5 fa0 := ⟨newOk 5 100 (by omega) (by omega) (by omega) (by omega), ⟨rfl, rfl, rfl⟩⟩
theorem fR1_ok : DrvOk 5 fR1.1 := renews_calm _ _ _ (look_calm fa0_ok)
theorem fR1_t : 0 <= fR1.1.t /\ fR1.1.t <= 500 := by
 have h := renews_ticks (List.range 5) (dLook fa0) (x0 fa0.f.chip.ws)
 have h0 : (dLook fa0).t = 0 := by unfold dLook; split <;> rfl
 rw [h0, List.length_range] at h
 unfold fR1
 omega
set_option maxRecDepth 100000 in
theorem fAdd : AddTo 5 fP 0 fB2.1 fB2.2.1 fR3 := .done fW2_e
theorem mNote_e (r : DrvM × StoM × Int) : (mNote r).2.2 = r.2.2 := rfl
theorem mNote_d (r : DrvM × StoM × Int) : (mNote r).1 = r.1 := rfl
set_option maxRecDepth 100000 in
theorem fR4_is : fR4 = mNote fR3 := by
 have h : mBegin 5 fR1.1 fR1.2.1 3 = fB2 := by unfold fB2; rfl
 unfold fR4 mChg
 rw [h, if_pos fB2_e]
set_option maxRecDepth 100000 in
theorem fR4_e : fR4.2.2 = 0 := by rw [fR4_is, mNote_e]; exact fR3_e
set_option maxRecDepth 100000 in
theorem fR4_ok : DrvOk 5 fR4.1 := by
 rw [fR4_is, mNote_d]
 exact addTo_calm fAdd (begin_calm fR1_ok _ _)
set_option maxRecDepth 100000 in
theorem fR5_ok : DrvOk 5 fR5.1 := fix_calm _ _ _ (look_calm fR4_ok)
set_option maxRecDepth 100000 in
theorem fB6_ok : DrvOk 5 fB6.1 := begin_calm fR5_ok _ _
set_option maxRecDepth 100000 in
theorem fB7_ok : DrvOk 5 fB7.1 := begin_calm fB6_ok _ _
theorem Us1234 : Us [1#32, 2#32, 3#32, 4#32] = [.int .u32 1, .int .u32 2, .int .u32 3, .int .u32 4] := rfl
set_option maxRecDepth 100000 in
theorem run_b4 (w : World) : (Instr.build 67 #[(0, .int .u32 1), (1, .int .u32 2), (2, .int .u32 3), (3, .int .u32 4)]).run Tryz.prog w = .ok (.agg #[.int .u32 1, .int .u32 2, .int .u32 3, .int .u32 4]) w := by kernel_rfl
set_option maxRecDepth 100000 in
set_option maxHeartbeats 2000000 in
theorem alive8_any (w : World) : Calls Tryz.prog 10 #[] w fun e w' => e = .returned (.bool true) /\ Below w.heap.size w w' := by
 have rb4 := run_b4
 go_enter Tryz.func10, Tryz.ntmps10
 go_upto_region 4 with (first
  | (go_at_call 11; (refine (begin8_any (B := w.heap.size) 5 100 w (Nat.le_refl _) (by omega) (by omega) (by omega) (by omega)).mono ?_); rintro e w1 ⟨p, f, q, rfl, s0, b1⟩; have S1 : Hid (Dv w.heap.size p f q 5 NoBlock fa0 w1) := Lib.hid s0; have B1 := Lib.hid b1; clear s0 b1)
  | (refine wpList_stm (pre := []) (post := []) (xs := wd0) (ys := wdC p q) _ _ rfl rfl rfl rfl wd_size rfl rfl (by simp [wdC, Value.oneCell']) rfl (by simp) (At.news w1 _ wd0) ?_; intro w2 A2 T2; rw [List.nil_append, List.append_nil] at A2; have HA2 := Lib.hid A2; have HB2 : Hid (Below w1.heap.size w1 w2) := Lib.hid (((Below.refl _ w1).alloc (Nat.le_refl _) _).trans (T2.below (fun i hi => by unfold Just at hi; omega) (by simp))); clear A2 T2))
 obtain ⟨bt, hbt⟩ : ∃ bt, bt = w1.heap.size := ⟨_, rfl⟩
 rw [<- hbt] at HA2 ⊢
 have S2 : Hid (Dv w.heap.size p f q 5 (Just bt) fa0 w2) := Lib.hid (S1.out.move rfl (S := NoBlock) (fun _ e => e.elim) (Turned.of_below HB2.out (Nat.le_refl _) _) (fun i e => by unfold Just at e; rw [e]; exact ⟨.inr (by omega), HA2.out.lt⟩))
 have FO : Hid (Calls Tryz.prog 12 #[.pointer (some ⟨q, 0, none⟩)] w2 fun e w' => e = .returned (.tuple #[.pointer (some ⟨w2.heap.size, 0, none⟩), .int .i64 0]) /\ (∃ g, Sto w.heap.size p f q w2.heap.size 5 g (Just bt) fR1.1 fR1.2.1 w') /\ Turned (May w.heap.size (Just bt)) w2 w') := Lib.hid ((S2.out.format fa0_ok (by omega) (by omega) rfl (by decide) (by decide)).mono fun e w' h => h.ok fR1_e)
 have c1 : w2.cell? ⟨bt, 1, none⟩ = some (.pointer (some ⟨q, 0, none⟩)) := HA2.out.cell 1
 have HBT := Lib.hid hbt
 obtain ⟨s1, hs1⟩ : ∃ s1, s1 = w2.heap.size := ⟨_, rfl⟩
 rw [<- hs1] at FO
 clear hbt hs1
 go_upto_region 5 with (first
  | (go_at_call 12; (with_reducible refine FO.out.mono ?_); rintro e w3 ⟨rfl, ⟨g3, s3⟩, t3⟩; have S3 := Lib.hid s3; have T3 := Lib.hid t3; clear s3 t3))
 have SEC := Lib.hid S3.out.sectors
 rw [show secs 5 = 12 from rfl] at SEC
 have WR := Lib.hid (S3.out.write (v0 := 1#32) (v1 := 2#32) (v2 := 3#32) (v3 := 4#32) fR1_ok (by omega) (by omega) 3 (by omega) (by omega) (n := 0) (R := fR3) (fun _ => fAdd) (fun _ => by rw [fR3_e]; omega) fR1_t.1 (by have := fR1_t.2; omega))
 unfold StoOut at WR
 rw [show mChg 5 fR1.1 fR1.2.1 3 fR3 = fR4 from rfl, fR4_e, show U 1#32 = 1 from rfl, show U 2#32 = 2 from rfl, show U 3#32 = 3 from rfl, show U 4#32 = 4 from rfl] at WR
 go_upto_region 7 with (first
  | (go_at_call 13; (with_reducible refine SEC.out.mono ?_); rintro e w4 ⟨rfl, hw⟩; obtain rfl := hw.symm)
  | (go_at_call 35; (with_reducible refine WR.out.mono ?_); rintro e w4 ⟨rfl, ⟨g4, s4⟩, t4⟩; have S4 := Lib.hid s4; have T4 := Lib.hid t4; clear s4 t4))
 have HA4 : Hid (At w4 bt 27 (wdC p q)) := Lib.hid (HA2.out.kept (T3.out.trans T4.out) (fun e => e.2 rfl))
 have c1 : w4.cell? ⟨bt, 1, none⟩ = some (.pointer (some ⟨q, 0, none⟩)) := HA4.out.cell 1
 have DV4 : Hid (Dv w.heap.size p f q 5 (Just bt) fR4.1 w4) := Lib.hid (S4.out.dv.less fun i e => .inl e)
 have MO : Hid (Calls Tryz.prog 19 #[.pointer (some ⟨q, 0, none⟩)] w4 fun e w' => e = .returned (.tuple #[.pointer (some ⟨w4.heap.size, 0, none⟩), .int .i64 0]) /\ (∃ g, Sto w.heap.size p f q w4.heap.size 5 g (Just bt) fR5.1 fR5.2.1 w') /\ Turned (May w.heap.size (Just bt)) w4 w') := Lib.hid ((DV4.out.mountE fR4_ok (by omega) (by omega) fR4_u fR4_t.1 (by have := fR4_t.2; omega) (fun _ => fR5_m)).mono fun e w' h => h.ok fR5_e)
 obtain ⟨s2, hs2⟩ : ∃ s2, s2 = w4.heap.size := ⟨_, rfl⟩
 rw [<- hs2] at MO
 clear hs2 SEC WR FO
 go_upto_region 10 with (first
  | (go_at_call 19; (with_reducible refine MO.out.mono ?_); rintro e w5 ⟨rfl, ⟨g5, s5⟩, t5⟩; have S5 := Lib.hid s5; have T5 := Lib.hid t5; clear s5 t5))
 have RD := Lib.hid (S5.out.read fR5_ok (by omega) 3 (by omega) (by omega))
 rw [show (mBegin 5 fR5.1 fR5.2.1 3) = fB6 from rfl, fB6_e, fRd_e, Us1234] at RD
 go_upto_region 11 with (first
  | (go_at_call 33; (with_reducible refine RD.out.mono ?_); rintro e w6 ⟨rfl, ⟨g6, s6⟩, t6⟩; have S6 := Lib.hid s6; have T6 := Lib.hid t6; clear s6 t6)
  | (refine wpList_stm (pre := []) (post := []) (xs := Us d40) (ys := Us [1#32, 2#32, 3#32, 4#32]) _ _ rfl rfl rfl rfl d4_size rfl rfl (Us_one _) rfl (by simp) (At.news w6 _ (Us d40)) ?_; intro w7 A7 T7; rw [List.nil_append, List.append_nil] at A7; have HA7 := Lib.hid A7; have HB7 : Hid (Below w6.heap.size w6 w7) := Lib.hid (((Below.refl _ w6).alloc (Nat.le_refl _) _).trans (T7.below (fun i hi => by unfold Just at hi; omega) (by simp))); clear A7 T7))
 obtain ⟨b7, hb7⟩ : ∃ b7, b7 = w6.heap.size := ⟨_, rfl⟩
 rw [<- hb7] at HA7 ⊢
 have S7 : Hid (Sto w.heap.size p f q s2 5 g6 (Just b7) fB6.1 fB6.2.1 w7) := Lib.hid (S6.out.renew fB6_ok.calm.job HB7.out (fun i e => by unfold Just at e; rw [e]; exact ⟨.inr (by omega), HA7.out.lt⟩))
 have RD2 := Lib.hid (S7.out.read fB6_ok (by omega) 12 (by omega) (by omega))
 rw [show rdM 5 fB6.1 fB6.2.1 12 = d40 from if_neg (by rw [show (mBegin 5 fB6.1 fB6.2.1 12) = fB7 from rfl, fB7_e]; decide), show (mBegin 5 fB6.1 fB6.2.1 12) = fB7 from rfl, fB7_e] at RD2
 clear hb7
 go_upto_region 12 with (first
  | (go_at_call 33; (with_reducible refine RD2.out.mono ?_); rintro e w8 ⟨rfl, ⟨g8, s8⟩, t8⟩; have S8 := Lib.hid s8; have T8 := Lib.hid t8; clear s8 t8)
  | (refine wpList_stm (pre := []) (post := []) (xs := Us d40) (ys := Us d40) _ _ rfl rfl rfl rfl d4_size rfl rfl (Us_one _) rfl (by simp) (At.news w8 _ (Us d40)) ?_; intro w9 A9 T9; have HB9 : Hid (Below w8.heap.size w8 w9) := Lib.hid (((Below.refl _ w8).alloc (Nat.le_refl _) _).trans (T9.below (fun i hi => by unfold Just at hi; omega) (by simp))); clear A9 T9))
 have HA9 : Hid (At w9 b7 67 (Us [1#32, 2#32, 3#32, 4#32])) := Lib.hid ((HA7.out.kept T8.out (fun e => e.2 rfl)).kept (Turned.of_below HB9.out (Nat.le_refl _) NoBlock) (fun h => h))
 have S9 := Lib.hid (S8.out.below HB9.out)
 have q0 : w9.cell? ⟨b7, 0, none⟩ = some (.int .u32 1) := HA9.out.cell 0
 have q1 : w9.cell? ⟨b7, 1, none⟩ = some (.int .u32 2) := HA9.out.cell 1
 have q2 : w9.cell? ⟨b7, 2, none⟩ = some (.int .u32 3) := HA9.out.cell 2
 have q3 : w9.cell? ⟨b7, 3, none⟩ = some (.int .u32 4) := HA9.out.cell 3
 have RT := Lib.hid S9.out.retired
 rw [fB7_n] at RT
 have CT := Lib.hid (S9.out.counts fB7_ok (by omega))
 have TB : Hid (Below w.heap.size w w9) := Lib.hid (by
  have z1 := B1.out.size
  have z2 := HB2.out.size
  have z3 := T3.out.size
  have z4 := T4.out.size
  have z5 := T5.out.size
  have z6 := T6.out.size
  have z7 := HB7.out.size
  have z8 := T8.out.size
  have y2 := B1.out.trans (HB2.out.mono z1)
  have y3 := y2.trans (mayB_below T3.out (by omega))
  have y4 := y3.trans (mayB_below T4.out (by omega))
  have y5 := y4.trans (mayB_below T5.out (by omega))
  have y6 := y5.trans (mayB_below T6.out (by omega))
  have y7 := y6.trans (HB7.out.mono (by omega))
  have y8 := y7.trans (mayB_below T8.out (by omega))
  exact y8.trans (HB9.out.mono (by omega)))
 go_wp2_with (first
  | (go_at_call 22; (with_reducible refine RT.out.mono ?_); rintro e w10 ⟨rfl, hw⟩; obtain rfl := hw.symm)
  | (go_at_call 28; (with_reducible refine CT.out.mono ?_); rintro e w10 ⟨gc, rfl, _, _, _, t10⟩; have T10 := Lib.hid t10; clear t10))
 go_ret
 exact ⟨rfl, TB.out.trans (mayB_below T10.out TB.out.size)⟩
end
end Go.Proofs.YtnfgpjfldgocaaaGreat
