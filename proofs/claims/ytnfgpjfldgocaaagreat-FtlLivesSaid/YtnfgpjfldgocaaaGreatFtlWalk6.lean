import Derived.Test.YtnfgpjfldgocaaaGreatFtlLw
import Derived.Test.YtnfgpjfldgocaaaGreatFtlWalk3
import Derived.Deep.CutBlock
import Derived.Deep.DeepCutAuto
namespace Go.Proofs.YtnfgpjfldgocaaaGreat
open Go.RowKit Bm Go.Shelf
section
variable {B p f q s k g : Nat} {K : Nat -> Prop} {Q W T E : Int} {V V' : BitVec 32 -> List (BitVec 32)} {d d' : DrvM} {x : StoM} {w w' : World}
def ActedV (B p f q s k : Nat) (K : Nat -> Prop) (Q W T E : Int) (V : BitVec 32 -> List (BitVec 32)) (a : Act8) (w : World) (e : Ending) (w' : World) : Prop :=
 ∃ ee : Int, e = .returned (.int .i64 ee) /\ ((¬ in8 k a /\ ee = 10 /\ ∃ d x, WelF B p f q s k K Q W T E V w' d x) \/ (in8 k a /\ ee = 0 /\ ∃ d x, WelF B p f q s k K Q W T E (val8 k a V) w' d x) \/ (in8 k a /\ ee = 4 /\ ∃ d V', Down B p f q k K Q W T E V' w' d /\ (V' = V \/ V' = val8 k a V))) /\ Turned (May B K) w w'
theorem Acted8.v {a : Act8} {e : Ending} (h : Acted8 B p f q s k K Q W T E V a w e w') : ActedV B p f q s k K Q W T E V a w e w' := by
 cases h with
 | none d x h1 h2 h3 h4 => exact ⟨10, h2, .inl ⟨h1, rfl, d, x, h3⟩, h4⟩
 | done d x h1 h2 h3 h4 => exact ⟨0, h2, .inr (.inl ⟨h1, rfl, d, x, h3⟩), h4⟩
 | cut d V' h1 h2 h3 h4 h5 => exact ⟨4, h2, .inr (.inr ⟨h1, rfl, d, V', h3, h4⟩), h5⟩
def MountedV (B p f q s k : Nat) (K : Nat -> Prop) (Q W E : Int) (V : BitVec 32 -> List (BitVec 32)) (left : Int) (w : World) (e : Ending) (w' : World) : Prop :=
 ∃ (ps : Option Addr) (ee : Int), e = .returned (.tuple #[.pointer ps, .int .i64 ee]) /\ ((ps = some ⟨s, 0, none⟩ /\ ee = 0 /\ ∃ d x, WelF B p f q s k K Q W 1000000 E V w' d x) \/ (ps = none /\ ee = 4 /\ left ≠ 0 /\ ∃ d, Down B p f q k K Q W 1000000 E V w' d /\ d.f.chip.up = false)) /\ Turned (May B K) w w'
theorem Mounted8.v {e : Ending} {left : Int} (h : Mounted8 B p f q s k K Q W E V left w e w') : MountedV B p f q s k K Q W E V left w e w' := by
 cases h with
 | done d x h1 h2 h3 => exact ⟨_, 0, h1, .inl ⟨rfl, rfl, d, x, h2⟩, h3⟩
 | cut d h0 h1 h2 h3 h4 => exact ⟨_, 4, h1, .inr ⟨rfl, rfl, h0, d, h2, h3⟩, h4⟩
theorem Down.upOf (h : Down B p f q k K Q W T E V w d) : Calls Tryz.prog 27 #[.pointer (some ⟨p, 0, none⟩)] w fun e w' => e = .returned (.bool d.f.chip.up) /\ w' = w := h.dv.st.st.up
theorem Down.less {K' : Nat -> Prop} (h : Down B p f q k K Q W T E V w d) (hk : ∀ i, K' i -> K i) : Down B p f q k K' Q W T E V w d := ⟨h.dv.less hk, h.ok, h.rest, h.endure, h.t0, h.t1⟩
theorem Down.kin (h : Down B p f q k K Q W T E V w d) (i : Nat) (hi : K i) : i < w.heap.size := h.dv.kin i hi
end
theorem own_neB {w : World} {base n k b : Nat} {t t' : TypeId} {v : Value} {xs cs : List Value} (h : w.ownsRow base t k v n xs) (hA : At w b t' cs) (ht : t ≠ t') : ∀ r, v.ownBlock = some r -> r ≠ b := by
 rintro r e rfl
 obtain ⟨hl, ⟨rfl, h0⟩ | ⟨g, cap, cur, rfl, hb, hg, _⟩⟩ := h
 ·cases e
 ·have e' : g = r := by
   have e2 : some g = some r := e
   exact Option.some.inj e2
  subst e'
  unfold At at hA
  rw [hg] at hA
  simp only [Option.some.injEq, Obj.cells.injEq] at hA
  exact ht hA.2.1
structure Cut8 (B p f q k S bt b11 : Nat) (x : LifeM) (Q W : Int) (v9 v12 : Value) (w0 w : World) : Prop where
 at_ : At w bt 27 (wdC p q)
 life : At w b11 54 (lfC x)
 below : Below B w0 w
 rows : ∃ V9 V12 VV d, (∀ n, (V9 n).length = 4) /\ (∀ n, (V12 n).length = 4) /\ w.ownsRow B 44 4 v9 S (vls V9 S) /\ w.ownsRow B 44 4 v12 S (vls V12 S) /\ (VV = V9 \/ VV = V12) /\ Down B p f q k (fun i => ((i = bt \/ i = b11) \/ v9.ownBlock = some i) \/ v12.ownBlock = some i) Q W 80000000 100000 VV w d
set_option maxRecDepth 100000 in
set_option maxHeartbeats 16000000 in
theorem ftlLives_walk (a0 : Int) (b0 : (Lit.int .u8 a0).wf = true) (A : Option Addr) (n cap : Nat) (xs : List LifeM) (w : World) (hr : ReadsL8 w A n cap xs) :
  Calls Tryz.prog 4 #[.int .u8 a0, .slice A n cap] w fun e w' => e = .returned (.bool true) /\ Below w.heap.size w w' := by
 have c0 := bounds_u8 b0
 have hle := hr.le
 have hmx := hr.max
 unfold maxLen at hmx
 have HR := Lib.hid hr
 have HLA := Lib.hid len_acts8
 have HLB := Lib.hid len_bytes8
 obtain ⟨k, hk, k5, k8⟩ : ∃ k : Nat, 5 + a0 % 3 = (k : Int) /\ 5 <= k /\ k <= 7 := ⟨(5 + a0 % 3).toNat, by omega, by omega, by omega⟩
 obtain ⟨S, hS, hS2⟩ : ∃ S : Nat, S = (k - 3) * 6 /\ S <= 30 := ⟨_, rfl, by omega⟩
 have hsec : secs k = (S : Int) := by unfold secs; omega
 have HSEC := Lib.hid hsec
 have HS := Lib.hid hS
 clear hr b0 hS hsec
 go_enter Tryz.func4, Tryz.ntmps4
 go_upto_region 3 with (first
  | (go_at_call 10; (refine (alive8_any w).mono ?_); rintro e wa ⟨rfl, hBa⟩; have HBA0 := Lib.hid hBa; clear hBa))
 go_wp2_with fail
 refine (heavy8_any xs (HR.out.kept HBA0.out)).mono ?_
 rintro e wh ⟨⟨bh, rfl, hlight⟩, hbh⟩
 have HBA := Lib.hid (HBA0.out.trans (hbh.mono HBA0.out.size))
 have HLI := Lib.hid hlight
 clear hlight hbh HBA0
 cases bh with
 | true =>
   go_wp2
   go_ret
   exact ⟨rfl, HBA.out⟩
 | false =>
   have HLI2 := Lib.hid (HLI.out rfl)
   have hn5 := HLI2.out.1
   clear HLI
   go_upto_region 6 with (first
    | (go_at_call 11; (refine (begin8_any (B := w.heap.size) k 100000 wh HBA.out.size (by omega) (by omega) (by omega) (by omega)).mono ?_); rintro e w1 ⟨p, f, q, rfl, s0, b1⟩; have S1 : Hid (Dv w.heap.size p f q k NoBlock ⟨fNew (mNew k 100000), 0⟩ w1) := Lib.hid s0; have B1 := Lib.hid (HBA.out.trans (b1.mono HBA.out.size)); clear s0 b1)
    | (refine wpList_stm (pre := []) (post := []) (xs := wd0) (ys := wdC p q) _ _ rfl rfl rfl rfl wd_size rfl rfl (wdC_one p q) rfl (by simp) (At.news w1 _ wd0) ?_; intro w2 A2 T2; rw [List.nil_append, List.append_nil] at A2; have HA2 := Lib.hid A2; have HB2 : Hid (Below w1.heap.size w1 w2) := Lib.hid (((Below.refl _ w1).alloc (Nat.le_refl _) _).trans (T2.below (fun i hi => by unfold Just at hi; omega) (by simp))); clear A2 T2))
   obtain ⟨bt, hbt⟩ : ∃ bt, bt = w1.heap.size := ⟨_, rfl⟩
   rw [<- hbt] at HA2 ⊢
   have B2 := Lib.hid (B1.out.trans (HB2.out.mono B1.out.size))
   have HBT0 : Hid (w.heap.size <= bt) := Lib.hid (by rw [hbt]; exact B1.out.size)
   have S2 : Hid (Dv w.heap.size p f q k (Just bt) ⟨fNew (mNew k 100000), 0⟩ w2) := Lib.hid (S1.out.move rfl (S := NoBlock) (fun _ e => e.elim) (Turned.of_below HB2.out (Nat.le_refl _) _) (fun i e => by unfold Just at e; rw [e]; exact ⟨.inr (by omega), HA2.out.lt⟩))
   have FO := Lib.hid (format_new (C := False) S2.out (by omega) (by omega) (by omega) (by omega))
   have c1 : w2.cell? ⟨bt, 1, none⟩ = some (.pointer (some ⟨q, 0, none⟩)) := HA2.out.cell 1
   obtain ⟨s1, hs1⟩ : ∃ s1, s1 = w2.heap.size := ⟨_, rfl⟩
   rw [<- hs1] at FO
   clear hbt hs1 S1
   go_upto_region 9 with (first
    | (go_at_call 12; (with_reducible refine FO.out.mono ?_); rintro e w3 ⟨rfl, ⟨d3, x3, s3⟩, t3⟩; have S3 := Lib.hid s3; have T3 := Lib.hid t3; clear s3 t3))
   have HA3 : Hid (At w3 bt 27 (wdC p q)) := Lib.hid (HA2.out.kept T3.out (fun e => e.2 rfl))
   have B3 := Lib.hid (B2.out.trans (mayB_below T3.out B2.out.size))
   have SE := Lib.hid S3.out.sectors
   rw [HSEC.out] at SE
   have NW := Lib.hid (new8_any S (by omega) w3)
   clear c1 FO S2 HA2 B2
   go_upto_region 12 with (first
    | (go_at_call 13; (with_reducible refine SE.out.mono ?_); rintro e w4 ⟨rfl, hw⟩; obtain rfl := hw.symm)
    | (go_at_call 15; (with_reducible refine NW.out.mono ?_); rintro e w5 ⟨v, rfl, hrow, hb5⟩; have HROW := Lib.hid hrow; have HB5 := Lib.hid hb5; clear hrow hb5))
   have HW5 : Hid (Well False w.heap.size p f q s1 k (KV (Just bt) v) 0 1 1000000 100000 (fun _ => d40) w5 d3 x3) := Lib.hid ((S3.out.move (K' := KV (Just bt) v) (S := NoBlock) (fun _ e => e.elim) (Turned.of_below HB5.out (Nat.le_refl _) _) (fun i e => by
    have hz := HROW.out.lt
    rcases e with e | e
    ·exact ⟨.inl e, by have := HA3.out.lt; have := HB5.out.size; rw [show i = bt from e]; omega⟩
    ·exact ⟨.inr (hz i e).1, (hz i e).2⟩)).grow (by omega) (by omega) (by omega))
   have HA5 : Hid (At w5 bt 27 (wdC p q)) := Lib.hid (HA3.out.kept (Turned.of_below HB5.out (Nat.le_refl _) NoBlock) (fun h => h))
   have B5 := Lib.hid (B3.out.trans (HB5.out.mono B3.out.size))
   have HROW5 : Hid (w5.ownsRow w.heap.size 44 4 v S (vls (fun _ => d40) S)) := Lib.hid (own_lower HROW.out B3.out.size)
   clear HROW HB5 B3 HA3 S3 NW SE T3 c0
   go_wp2
   go_loopw [9, 7, 52] (fun v sp i wr => ∃ (j : Nat) (s f q : Nat) (d : DrvM) (x : StoM) (V : BitVec 32 -> List (BitVec 32)), j <= n /\ i = .int .i64 j /\ sp = .pointer (some ⟨s, 0, none⟩) /\ Well False w.heap.size p f q s k (KV (Just bt) v) (61 * (j : Int)) (1 + 4000 * (j : Int)) 1000000 100000 V wr d x /\ (∀ n, (V n).length = 4) /\ At wr bt 27 (wdC p q) /\ wr.ownsRow w.heap.size 44 4 v S (vls V S) /\ Below w.heap.size w wr) (fun _ _ i _ => n - (intOf i).toNat)
   case atStart => exact ⟨0, s1, f, q, d3, x3, _, by omega, rfl, rfl, HW5.out.grow (by omega) (by omega) (by omega), fun _ => d40_len, HA5.out, HROW5.out, B5.out⟩
   case round =>
    obtain ⟨j, s, f, q, d, x, V, hj, rfl, rfl, hwell, hV, hA, hrow, hB⟩ := hrel
    obtain ⟨A1, cap1, rfl, _⟩ := own_readsV hV hrow
    have HWE := Lib.hid hwell
    have HV := Lib.hid hV
    have HA := Lib.hid hA
    have HROW := Lib.hid hrow
    have HB := Lib.hid hB
    clear hwell hV hA hrow hB HW5 HA5 B5 HROW5
    by_cases hlt : j < n
    ·have j0 : (0 : Int) <= (j : Int) := by omega
     have j1 : (j : Int) < (n : Int) := by omega
     obtain ⟨g, off, lf, rfl, hlf, hxs, hrr⟩ := (HR.out.kept HB.out).at_ hlt
     have HLFW : Hid (LifeOk w lf) := Lib.hid (by
      obtain ⟨g0, off0, lf0, e0, h1, h2, _⟩ := HR.out.at_ hlt
      rw [hxs] at h2
      injection h2 with h2
      rw [h2]
      exact h1)
     have HLF := Lib.hid hlf
     have HRR := Lib.hid hrr
     have hl2 := HLI2.out.2 j lf hxs
     clear hlf hrr hxs
     go_upto_region 15 with (first
      | (refine wpList_ldr _ rfl rfl rfl Tryz.underlying54 rfl lf_size rfl HRR.out ?_)
      | (refine wpList_stm (pre := []) (post := []) (xs := lfZ) (ys := lfC lf) _ _ rfl rfl rfl rfl lf_size rfl rfl (lf_one lf) rfl (by simp) (At.news wr _ lfZ) ?_; intro w6 A6 T6; rw [List.nil_append, List.append_nil] at A6; have HA6 := Lib.hid A6; have HB6 : Hid (Below wr.heap.size wr w6) := Lib.hid (((Below.refl _ wr).alloc (Nat.le_refl _) _).trans (T6.below (fun i hi => by unfold Just at hi; omega) (by simp))); clear A6 T6))
     obtain ⟨b11, hb11⟩ : ∃ b11, b11 = wr.heap.size := ⟨_, rfl⟩
     rw [<- hb11] at HA6 ⊢
     have HB11N : Hid (b11 ≠ bt /\ w.heap.size <= b11) := Lib.hid (by have := HA.out.lt; have := HB.out.size; omega)
     have HW6 : Hid (WelF w.heap.size p f q s k (fun i => (i = bt \/ i = b11) \/ (Value.slice A1 S cap1).ownBlock = some i) (61 * (j : Int)) (1 + 4000 * (j : Int)) 1000000 100000 V w6 d x) := Lib.hid ((WelF.of HWE.out).move (S := NoBlock) (fun _ e => e.elim) (Turned.of_below HB6.out (Nat.le_refl _) _) (fun i e => by
      rcases e with (e | e) | e
      ·exact ⟨.inl (.inl e), by have := HA.out.lt; have := HB6.out.size; omega⟩
      ·exact ⟨.inr (by omega), by rw [e]; exact HA6.out.lt⟩
      ·exact ⟨.inl (.inr e), Nat.lt_of_lt_of_le (HWE.out.kin i (.inr e)) HB6.out.size⟩))
     have HAT6 : Hid (At w6 bt 27 (wdC p q)) := Lib.hid (HA.out.kept (Turned.of_below HB6.out (Nat.le_refl _) NoBlock) (fun h => h))
     have HROW6 : Hid (w6.ownsRow w.heap.size 44 4 (.slice A1 S cap1) S (vls V S)) := Lib.hid (Theirs.own_turned HROW.out (Turned.of_below HB6.out (Nat.le_refl _) NoBlock) (fun _ _ h => h))
     have B6 := Lib.hid (HB.out.trans (HB6.out.mono HB.out.size))
     have HLF6 := Lib.hid (HLF.out.kept HB6.out)
     obtain ⟨xA, xn, xcap, xacts, fu, pi, xM, mn, mcap, ms⟩ := lf
     have hf0 : 0 <= fu := HLF6.out.f0
     have hf1 : fu <= 255 := HLF6.out.f1
     have hxn : xn <= 60 := hl2.1
     have hmn : mn <= 4 := hl2.2
     have HHAW := Lib.hid HLFW.out.acts
     have HHMW := Lib.hid HLFW.out.mounts
     have y1 : w6.cell? ⟨b11, 1, none⟩ = some (.int .u8 fu) := HA6.out.cell 1
     have y2 : w6.cell? ⟨b11, 2, none⟩ = some (.int .u32 (U pi)) := HA6.out.cell 2
     have y3 : w6.cell? ⟨bt, 0, none⟩ = some (.pointer (some ⟨p, 0, none⟩)) := HAT6.out.cell 0
     have FU := Lib.hid (HW6.out.fuse fu pi (by omega))
     clear hb11 HWE HA HROW HB HB6 HRR HLF HLF6 hl2
     go_upto_region 16 with (first
      | (go_at_call 24; (with_reducible refine FU.out.mono ?_); rintro e w7 ⟨rfl, ⟨d7, s7, _⟩, t7⟩; have HW7 := Lib.hid s7; have T7 := Lib.hid t7; clear s7 t7))
     have HA7 : Hid (At w7 b11 54 (lfC ⟨xA, xn, xcap, xacts, fu, pi, xM, mn, mcap, ms⟩)) := Lib.hid (HA6.out.kept T7.out (fun e => e.2 (.inl (.inr rfl))))
     have HAT7 : Hid (At w7 bt 27 (wdC p q)) := Lib.hid (HAT6.out.kept T7.out (fun e => e.2 (.inl (.inl rfl))))
     have HROW7 : Hid (w7.ownsRow w.heap.size 44 4 (.slice A1 S cap1) S (vls V S)) := Lib.hid (Theirs.own_turned HROW6.out T7.out (fun r e h => h.2 (.inr e)))
     have B7 := Lib.hid (B6.out.trans (mayB_below T7.out B6.out.size))
     have y0 : w7.cell? ⟨b11, 0, none⟩ = some (.slice xA xn xcap) := HA7.out.cell 0
     have LEN := HLA.out xA xn xcap
     clear y1 y2 y3 FU HW6 HAT6 HROW6 HA6 T7
     go_upto_block 2 with fail
     have HX2 := Lib.hid (show ∃ (j2 : Nat) (d : DrvM) (x : StoM) (V2 : BitVec 32 -> List (BitVec 32)), j2 <= xn /\ (0 : Int) = (j2 : Int) /\ WelF w.heap.size p f q s k (fun i => (i = bt \/ i = b11) \/ (Value.slice A1 S cap1).ownBlock = some i) (61 * (j : Int) + (j2 : Int)) (1 + 4000 * (j : Int) + 56 * (j2 : Int)) (1000000 + 180000 * (j2 : Int)) 100000 V2 w7 d x /\ (∀ n, (V2 n).length = 4) /\ w7.ownsRow w.heap.size 44 4 (.slice A1 S cap1) S (vls V2 S) from ⟨0, d7, x, V, by omega, by omega, HW7.out.grow (by omega) (by omega) (by omega), HV.out, HROW7.out⟩)
     clear HW7 HROW7 HV
     go_cut [9, 12, 14, 15, 16, 17] (fun c9 c12 c14 c15 c16 c17 wx => Cut8 w.heap.size p f q k S bt b11 ⟨xA, xn, xcap, xacts, fu, pi, xM, mn, mcap, ms⟩ (61 * (j : Int) + 60) (1 + 4000 * (j : Int) + 3400) c9 c12 w wx)
     case first =>
      go_wp2_with fail
      go_loopw [9, 12, 68] (fun v9 v12 i2 wx => ∃ (j2 : Nat) (d : DrvM) (x : StoM) (V2 : BitVec 32 -> List (BitVec 32)), j2 <= xn /\ i2 = .int .i64 j2 /\ v12 = v9 /\ WelF w.heap.size p f q s k (fun i => (i = bt \/ i = b11) \/ v9.ownBlock = some i) (61 * (j : Int) + (j2 : Int)) (1 + 4000 * (j : Int) + 56 * (j2 : Int)) (1000000 + 180000 * (j2 : Int)) 100000 V2 wx d x /\ (∀ n, (V2 n).length = 4) /\ At wx bt 27 (wdC p q) /\ At wx b11 54 (lfC ⟨xA, xn, xcap, xacts, fu, pi, xM, mn, mcap, ms⟩) /\ wx.ownsRow w.heap.size 44 4 v9 S (vls V2 S) /\ Below w.heap.size w wx) (fun _ _ i2 _ => xn - (intOf i2).toNat)
      case atStart =>
       obtain ⟨j2, d, x, V2, h1, h2, h3, h4, h5⟩ := HX2.out
       obtain rfl : j2 = 0 := by omega
       exact ⟨0, d, x, V2, by omega, rfl, rfl, h3, h4, HAT7.out, HA7.out, h5, B7.out⟩
      case round =>
       obtain ⟨j2, d, x, V2, hj2, rfl, rfl, hwell, hV, hAt, hAl, hrow, hB⟩ := hrel
       obtain ⟨A2, cap2, rfl, R2⟩ := own_readsV hV hrow
       have HWE := Lib.hid hwell
       have HV2 := Lib.hid hV
       have HAT := Lib.hid hAt
       have HAL := Lib.hid hAl
       have HROW := Lib.hid hrow
       have HB := Lib.hid hB
       clear hwell hV hAt hAl hrow hB R2 HX2
       by_cases hlt2 : j2 < xn
       ·have j20 : (0 : Int) <= (j2 : Int) := by omega
        have j21 : (j2 : Int) < (xn : Int) := by omega
        obtain ⟨ga, offa, y, rfl, hy, _, y0', y1', y2'⟩ := (HHAW.out.kept HB.out).at_ hlt2
        have HY := Lib.hid hy
        clear hy
        go_upto_region 20 with (first
         | (refine wpList_stm (pre := []) (post := []) (xs := a8Z) (ys := a8C y) _ _ rfl rfl rfl rfl a8_size rfl rfl (a8_one y) rfl (by simp) (At.news wr _ a8Z) ?_; intro v4 A4 T4; rw [List.nil_append, List.append_nil] at A4; have HA4 := Lib.hid A4; have HB4 : Hid (Below wr.heap.size wr v4) := Lib.hid (((Below.refl _ wr).alloc (Nat.le_refl _) _).trans (T4.below (fun i hi => by unfold Just at hi; omega) (by simp))); clear A4 T4))
        obtain ⟨b14, hb14⟩ : ∃ b14, b14 = wr.heap.size := ⟨_, rfl⟩
        rw [<- hb14] at HA4 ⊢
        have HB14 : Hid (wr.heap.size <= b14) := Lib.hid (by omega)
        have HW4 : Hid (WelF w.heap.size p f q s k (fun i => (fun i => (i = bt \/ i = b11) \/ (Value.slice A2 S cap2).ownBlock = some i) i \/ i = b14) (61 * (j : Int) + (j2 : Int)) (1 + 4000 * (j : Int) + 56 * (j2 : Int)) (1000000 + 180000 * (j2 : Int)) 100000 V2 v4 d x) := Lib.hid (HWE.out.move (S := NoBlock) (fun _ e => e.elim) (Turned.of_below HB4.out (Nat.le_refl _) _) (fun i e => by
         rcases e with e | e
         ·exact ⟨.inl e, Nat.lt_of_lt_of_le (HWE.out.kin i e) HB4.out.size⟩
         ·exact ⟨.inr (by omega), by rw [e]; exact HA4.out.lt⟩))
        have DO := (HW4.out.act (by omega) (by omega) (by omega) (by omega) (by omega) (by omega) y HY.out).mono fun e w' h => h.v
        obtain ⟨bi, hbi⟩ : ∃ bi : Bool, bi = decide (in8 k y) := ⟨_, rfl⟩
        have HDO := Lib.hid DO
        have HBI := Lib.hid hbi
        have z0 : v4.cell? ⟨b14, 0, none⟩ = some (.int .u8 y.k) := HA4.out.cell 0
        have z1 : v4.cell? ⟨b14, 1, none⟩ = some (.int .i64 y.s) := HA4.out.cell 1
        have z2 : v4.cell? ⟨b14, 2, none⟩ = some (.int .u32 (U y.v)) := HA4.out.cell 2
        clear y0' y1' y2' hbi DO hb14 HWE
        simp only [Act.put]
        go_cut [15] (fun s15 wx => s15 = .bool bi /\ wx = v4)
        case first =>
         have h3 : (¬ (0 <= y.s)) \/ (0 <= y.s /\ ¬ (y.s < (S : Int))) \/ (0 <= y.s /\ y.s < (S : Int)) := by omega
         rcases h3 with h | ⟨h, h'⟩ | ⟨h, h'⟩
         ·obtain rfl : bi = false := by rw [HBI.out]; exact decide_eq_false (fun e => h e.1)
          go_wp2
          go_meet
          exact ⟨rfl, rfl⟩
         ·obtain rfl : bi = false := by rw [HBI.out]; exact decide_eq_false (fun e => h' (by rw [<- HSEC.out]; exact e.2))
          go_wp2
          go_meet
          exact ⟨rfl, rfl⟩
         ·obtain rfl : bi = true := by rw [HBI.out]; exact decide_eq_true ⟨h, by rw [HSEC.out]; exact h'⟩
          go_wp2
          go_meet
          exact ⟨rfl, rfl⟩
        case rest =>
         obtain ⟨rfl, hwx⟩ := hcut
         obtain rfl := hwx.symm
         go_upto_region 22 with (first
          | (go_at_call 16; (with_reducible refine HDO.out.mono ?_); rintro e v5 ⟨ee, rfl, hdis, t5⟩; have HDIS := Lib.hid hdis; have T5 := Lib.hid t5; clear hdis t5))
         have HAT5 : Hid (At v5 bt 27 (wdC p q)) := Lib.hid ((HAT.out.kept (Turned.of_below HB4.out (Nat.le_refl _) NoBlock) (fun h => h)).kept T5.out (fun e => e.2 (.inl (.inl (.inl rfl)))))
         have HAL5 : Hid (At v5 b11 54 (lfC ⟨(some ⟨ga, offa, none⟩), xn, xcap, xacts, fu, pi, xM, mn, mcap, ms⟩)) := Lib.hid ((HAL.out.kept (Turned.of_below HB4.out (Nat.le_refl _) NoBlock) (fun h => h)).kept T5.out (fun e => e.2 (.inl (.inl (.inr rfl)))))
         have HP5 : Hid (At v5 b14 40 (a8C y)) := Lib.hid (HA4.out.kept T5.out (fun e => e.2 (.inr rfl)))
         have HROW5 : Hid (v5.ownsRow w.heap.size 44 4 (.slice A2 S cap2) S (vls V2 S)) := Lib.hid (Theirs.own_turned (Theirs.own_turned HROW.out (Turned.of_below HB4.out (Nat.le_refl _) NoBlock) (fun _ _ h => h)) T5.out (fun r e h => h.2 (.inl (.inr e))))
         have B4 := HB.out.trans (HB4.out.mono HB.out.size)
         have B5 := Lib.hid (B4.trans (mayB_below T5.out B4.size))
         have HKA5 : Hid (∀ i, (fun i => (i = bt \/ i = b11) \/ (Value.slice A2 S cap2).ownBlock = some i) i -> i < v5.heap.size) := Lib.hid (fun i e => Nat.lt_of_lt_of_le (HW4.out.kin i (.inl e)) T5.out.size)
         obtain ⟨q0, q1, q2, q3, hz⟩ : ∃ q0 q1 q2 q3 : BitVec 32, v8 y = [q0, q1, q2, q3] := by
          unfold v8
          split
          ·exact ⟨_, _, _, _, rfl⟩
          ·exact ⟨_, _, _, _, rfl⟩
         have VA := fun W => value8_any y HY.out W
         rw [hz] at VA
         have HVA := Lib.hid VA
         have HVP : Hid (vls (putV V2 y.s [q0, q1, q2, q3]) S = vls (val8 k y V2) S) := Lib.hid (by rw [<- hz]; exact vls_put k S V2 y (by rw [HSEC.out]; exact Int.le_refl _) (by rw [HSEC.out]; omega))
         have PU := Lib.hid (fun W (hW : Below v5.heap.size v5 W) => put8_any ((own_vals HV2.out HROW5.out).kept hW) (by omega) y.s q0 q1 q2 q3)
         have l0 : ∀ W, Below v5.heap.size v5 W -> W.cell? ⟨b14, 0, none⟩ = some (.int .u8 y.k) := fun W hW => (HP5.out.kept (Turned.of_below hW (Nat.le_refl _) NoBlock) (fun h => h)).cell 0
         have l1 : ∀ W, Below v5.heap.size v5 W -> W.cell? ⟨b14, 1, none⟩ = some (.int .i64 y.s) := fun W hW => (HP5.out.kept (Turned.of_below hW (Nat.le_refl _) NoBlock) (fun h => h)).cell 1
         have l2 : ∀ W, Below v5.heap.size v5 W -> W.cell? ⟨b14, 2, none⟩ = some (.int .u32 (U y.v)) := fun W hW => (HP5.out.kept (Turned.of_below hW (Nat.le_refl _) NoBlock) (fun h => h)).cell 2
         clear VA hz B4 z0 z1 z2
         go_region_held3 (fun W => Below v5.heap.size v5 W) (first | assumption | exact (Below.refl _ v5).drew) (first
          | (go_at_call 18; (refine (HVA.out _).mono ?_); rintro e v6 ⟨rfl, hb⟩; have S6 := Below.trans (by assumption) (hb.mono (Below.size (by assumption))); clear hb)
          | (go_at_call 17; (refine (PU.out _ (by assumption)).mono ?_); rintro e v7 ⟨vr, rfl, hrow7, hb⟩; have HR7 : Hid (v7.ownsRow v5.heap.size 44 4 vr S (vls (val8 k y V2) S)) := Lib.hid (by rw [<- HVP.out]; exact own_lower hrow7 (Below.size (by assumption))); have S7 := Below.trans (by assumption) (hb.mono (Below.size (by assumption))); clear hb hrow7))
         have S7 : Below v5.heap.size v5 v7 := by assumption
         have HB7 := Lib.hid S7
         have HAT7 : Hid (At v7 bt 27 (wdC p q)) := Lib.hid (HAT5.out.kept (Turned.of_below HB7.out (Nat.le_refl _) NoBlock) (fun h => h))
         have HAL7 : Hid (At v7 b11 54 (lfC ⟨(some ⟨ga, offa, none⟩), xn, xcap, xacts, fu, pi, xM, mn, mcap, ms⟩)) := Lib.hid (HAL5.out.kept (Turned.of_below HB7.out (Nat.le_refl _) NoBlock) (fun h => h))
         have HROW7 : Hid (v7.ownsRow w.heap.size 44 4 (.slice A2 S cap2) S (vls V2 S)) := Lib.hid (Theirs.own_turned HROW5.out (Turned.of_below HB7.out (Nat.le_refl _) NoBlock) (fun _ _ h => h))
         have B7 := Lib.hid (B5.out.trans (HB7.out.mono B5.out.size))
         have HNEW : Hid (∀ i, vr.ownBlock = some i -> v5.heap.size <= i /\ i < v7.heap.size) := Lib.hid (fun i e => HR7.out.lt i e)
         have HR7 : Hid (v7.ownsRow w.heap.size 44 4 vr S (vls (val8 k y V2) S)) := Lib.hid (own_lower HR7.out B5.out.size)
         clear S7 l0 l1 l2 PU HVA HVP HAT HAL HA4 HB4 HROW HROW5 HAT5 HAL5 HP5 T5 HW4 HDO HB HB14 B5
         rcases HDIS.out with ⟨hin, rfl, d5, x5, s5⟩ | ⟨hin, rfl, d5, x5, s5⟩ | ⟨hin, rfl, d5, V5, s5, hv5⟩
         ·obtain rfl : bi = false := by rw [HBI.out]; exact decide_eq_false hin
          have HS5 : Hid (WelF w.heap.size p f q s k (fun i => (i = bt \/ i = b11) \/ (Value.slice A2 S cap2).ownBlock = some i) (61 * (j : Int) + ((j2 + 1 : Nat) : Int)) (1 + 4000 * (j : Int) + 56 * ((j2 + 1 : Nat) : Int)) (1000000 + 180000 * ((j2 + 1 : Nat) : Int)) 100000 V2 v7 d5 x5) := Lib.hid ((s5.move (K' := (fun i => (i = bt \/ i = b11) \/ (Value.slice A2 S cap2).ownBlock = some i)) (S := NoBlock) (fun _ e => e.elim) (Turned.of_below HB7.out (Nat.le_refl _) _) (fun i e => ⟨.inl (.inl e), Nat.lt_of_lt_of_le (HKA5.out i e) HB7.out.size⟩)).grow (by omega) (by omega) (by omega))
          clear s5 HDIS hin
          go_wp2_with fail
          go_roundw
          case rel => exact ⟨j2 + 1, d5, x5, V2, by omega, by go_num, rfl, HS5.out, HV2.out, HAT7.out, HAL7.out, HROW7.out, B7.out⟩
          case measure => simp [intOf]; omega
         ·obtain rfl : bi = true := by rw [HBI.out]; exact decide_eq_true hin
          have HS5 : Hid (WelF w.heap.size p f q s k (fun i => (i = bt \/ i = b11) \/ vr.ownBlock = some i) (61 * (j : Int) + ((j2 + 1 : Nat) : Int)) (1 + 4000 * (j : Int) + 56 * ((j2 + 1 : Nat) : Int)) (1000000 + 180000 * ((j2 + 1 : Nat) : Int)) 100000 (val8 k y V2) v7 d5 x5) := Lib.hid ((s5.move (K' := (fun i => (i = bt \/ i = b11) \/ vr.ownBlock = some i)) (S := NoBlock) (fun _ e => e.elim) (Turned.of_below HB7.out (Nat.le_refl _) _) (fun i e => by
           rcases e with e | e
           ·exact ⟨.inl (.inl (.inl e)), Nat.lt_of_lt_of_le (HKA5.out i (.inl e)) HB7.out.size⟩
           ·exact ⟨.inr (HNEW.out i e).1, (HNEW.out i e).2⟩)).grow (by omega) (by omega) (by omega))
          clear s5 HDIS hin
          go_wp2_with fail
          go_roundw
          case rel => exact ⟨j2 + 1, d5, x5, val8 k y V2, by omega, by go_num, rfl, HS5.out, fun n => val8_len k y V2 HV2.out n, HAT7.out, HAL7.out, HR7.out, B7.out⟩
          case measure => simp [intOf]; omega
         ·obtain rfl : bi = true := by rw [HBI.out]; exact decide_eq_true hin
          have HS5 : Hid (Cut8 w.heap.size p f q k S bt b11 ⟨(some ⟨ga, offa, none⟩), xn, xcap, xacts, fu, pi, xM, mn, mcap, ms⟩ (61 * (j : Int) + 60) (1 + 4000 * (j : Int) + 3400) (.slice A2 S cap2) vr w v7) := Lib.hid ⟨HAT7.out, HAL7.out, B7.out, V2, val8 k y V2, V5, d5, HV2.out, fun n => val8_len k y V2 HV2.out n, HROW7.out, HR7.out, hv5, (s5.move (S := NoBlock) (fun _ e => e.elim) (Turned.of_below HB7.out (Nat.le_refl _) _) (fun i e => by
           rcases e with e | e
           ·exact ⟨.inl (.inl e), Nat.lt_of_lt_of_le (HKA5.out i e) HB7.out.size⟩
           ·exact ⟨.inr (HNEW.out i e).1, (HNEW.out i e).2⟩)).grow (by omega) (by omega) (by omega)⟩
          clear s5 HDIS hin hv5
          go_wp2_with fail
          go_meet
          exact HS5.out
       ·obtain rfl : j2 = xn := by omega
        have HS5 : Hid (Cut8 w.heap.size p f q k S bt b11 ⟨xA, j2, xcap, xacts, fu, pi, xM, mn, mcap, ms⟩ (61 * (j : Int) + 60) (1 + 4000 * (j : Int) + 3400) (.slice A2 S cap2) (.slice A2 S cap2) w wr) := Lib.hid ⟨HAT.out, HAL.out, HB.out, V2, V2, V2, d, HV2.out, HV2.out, HROW.out, HROW.out, .inl rfl, (HWE.out.down.less (fun i e => by
         rcases e with e | e
         ·exact e
         ·exact .inr e)).grow (by omega) (by omega) (by omega)⟩
        go_wp2_with fail
        go_meet
        exact HS5.out
     case rest =>
      obtain ⟨hAt, hAl, hB, V9, V12, VV, d, hV9, hV12, hrow9, hrow12, hvv, hdn⟩ := hcut
      obtain ⟨A9, cap9, rfl, _⟩ := own_readsV hV9 hrow9
      obtain ⟨A12, cap12, rfl, _⟩ := own_readsV hV12 hrow12
      obtain ⟨K3, hK3⟩ : ∃ K3 : Nat -> Prop, K3 = fun i => ((i = bt \/ i = b11) \/ (Value.slice A9 S cap9).ownBlock = some i) \/ (Value.slice A12 S cap12).ownBlock = some i := ⟨_, rfl⟩
      rw [<- hK3] at hdn
      have HK3t : Hid (K3 bt) := Lib.hid (by rw [hK3]; exact .inl (.inl (.inl rfl)))
      have HK3l : Hid (K3 b11) := Lib.hid (by rw [hK3]; exact .inl (.inl (.inr rfl)))
      have HK39 : Hid (∀ r, (Value.slice A9 S cap9).ownBlock = some r -> K3 r) := Lib.hid (fun r e => by rw [hK3]; exact .inl (.inr e))
      have HK312 : Hid (∀ r, (Value.slice A12 S cap12).ownBlock = some r -> K3 r) := Lib.hid (fun r e => by rw [hK3]; exact .inr e)
      have HKN : Hid (∀ i, K3 i -> i ≠ bt -> ((i = b11 \/ (Value.slice A9 S cap9).ownBlock = some i) \/ (Value.slice A12 S cap12).ownBlock = some i)) := Lib.hid (fun i e h => by
       rw [hK3] at e
       rcases e with ((e | e) | e) | e
       ·exact absurd e h
       ·exact .inl (.inl e)
       ·exact .inl (.inr e)
       ·exact .inr e)
      have HVV : Hid (∀ n, (VV n).length = 4) := Lib.hid (by
       rcases hvv with rfl | rfl
       ·exact hV9
       ·exact hV12)
      have HCASE := Lib.hid hvv
      have HV9 := Lib.hid hV9
      have HV12 := Lib.hid hV12
      have HDN := Lib.hid hdn
      have HATc := Lib.hid hAt
      have HALc := Lib.hid hAl
      have HR9c := Lib.hid hrow9
      have HR12c := Lib.hid hrow12
      have HBc := Lib.hid hB
      have z0 : wc.cell? ⟨bt, 0, none⟩ = some (.pointer (some ⟨p, 0, none⟩)) := hAt.cell 0
      have CT := Lib.hid hdn.cut
      clear hK3 hvv hV9 hV12 hdn hAt hAl hB hrow9 hrow12 HX2
      go_upto_region 32 with (first
       | (go_at_call 25; (with_reducible refine CT.out.mono ?_); rintro e x1 ⟨rfl, ⟨d1, s1'⟩, t1⟩; have HD1 := Lib.hid s1'; have T1 := Lib.hid t1; clear s1' t1))
      have HAT1 : Hid (At x1 bt 27 (wdC p q)) := Lib.hid (HATc.out.kept T1.out (fun e => e.2 HK3t.out))
      have HAL1 : Hid (At x1 b11 54 (lfC ⟨xA, xn, xcap, xacts, fu, pi, xM, mn, mcap, ms⟩)) := Lib.hid (HALc.out.kept T1.out (fun e => e.2 HK3l.out))
      have HR91 := Lib.hid (Theirs.own_turned HR9c.out T1.out (fun r e h => h.2 (HK39.out r e)))
      have HR121 := Lib.hid (Theirs.own_turned HR12c.out T1.out (fun r e h => h.2 (HK312.out r e)))
      have B1' := Lib.hid (HBc.out.trans (mayB_below T1.out HBc.out.size))
      clear z0 CT HATc HALc HR9c HR12c HBc T1 HDN
      go_wp2_with fail
      go_loopw [7, 8, 18] (fun c7 c8 i3 wx => ∃ (j3 f q : Nat), j3 <= mn + 1 /\ i3 = .int .i64 j3 /\ At wx bt 27 (wdC p q) /\ At wx b11 54 (lfC ⟨xA, xn, xcap, xacts, fu, pi, xM, mn, mcap, ms⟩) /\ wx.ownsRow w.heap.size 44 4 (.slice A9 S cap9) S (vls V9 S) /\ wx.ownsRow w.heap.size 44 4 (.slice A12 S cap12) S (vls V12 S) /\ Below w.heap.size w wx /\ ((c7 = .pointer none /\ j3 <= mn /\ ∃ d, Down w.heap.size p f q k K3 (61 * (j : Int) + 60) (1 + 4000 * (j : Int) + 3400 + (j3 : Int)) 80000000 100000 VV wx d) \/ (∃ s, c7 = .pointer (some ⟨s, 0, none⟩) /\ c8 = .int .i64 0 /\ ∃ d x, WelF w.heap.size p f q s k K3 (61 * (j : Int) + 60) (1 + 4000 * (j : Int) + 3400 + (j3 : Int)) 1000000 100000 VV wx d x))) (fun _ _ i3 _ => mn + 2 - (intOf i3).toNat)
      case atStart => exact ⟨0, f, q, by omega, rfl, HAT1.out, HAL1.out, HR91.out, HR121.out, B1'.out, .inl ⟨rfl, by omega, d1, HD1.out.grow (by omega) (by omega) (by omega)⟩⟩
      case round =>
       obtain ⟨j3, f, q, hj3, rfl, hAt, hAl, hr9, hr12, hB, hs⟩ := hrel
       have HAT := Lib.hid hAt
       have HAL := Lib.hid hAl
       have HR9 := Lib.hid hr9
       have HR12 := Lib.hid hr12
       have HB := Lib.hid hB
       have z3 : wr.cell? ⟨b11, 3, none⟩ = some (.slice xM mn mcap) := hAl.cell 3
       have LENM := HLB.out xM mn mcap
       have j30 : (0 : Int) <= (j3 : Int) := by omega
       clear hAt hAl hr9 hr12 hB HAT1 HAL1 HR91 HR121 B1' HD1
       rcases hs with ⟨rfl, hjm, d, hdn⟩ | ⟨s, rfl, rfl, hs⟩
       ·have hjm' : (j3 : Int) <= (mn : Int) := by omega
        have HDN := Lib.hid hdn
        have y0 : wr.cell? ⟨bt, 0, none⟩ = some (.pointer (some ⟨p, 0, none⟩)) := HAT.out.cell 0
        have y1 : wr.cell? ⟨bt, 1, none⟩ = some (.pointer (some ⟨q, 0, none⟩)) := HAT.out.cell 1
        have AG := Lib.hid (hdn.again q)
        have HNB9 := Lib.hid (own_neB HR9.out HAT.out (by decide))
        have HNB12 := Lib.hid (own_neB HR12.out HAT.out (by decide))
        clear hdn
        go_upto_region 39 with (first
         | (go_at_call 26; (with_reducible refine AG.out.mono ?_); rintro e x1 ⟨f', q', d1, rfl, hfr, hl0, t1⟩; have HFR := Lib.hid hfr; have HL0 := Lib.hid hl0; have T1 := Lib.hid t1; have HAT1 : Hid (At x1 bt 27 (wdC p q)) := Lib.hid (HAT.out.kept t1 (fun e => e.2 HK3t.out)); clear hfr hl0 t1)
         | (refine wpList_stm (pre := []) (post := []) (xs := wdC p q) (ys := wdC p q') _ _ rfl rfl rfl rfl wd_size rfl rfl (wdC_one p q') rfl (by simp) HAT1.out ?_; intro x2 A2 T2; rw [List.nil_append, List.append_nil] at A2; have HA2 := Lib.hid A2; have T2' := Lib.hid T2; clear A2 T2))
        have HFR2 : Hid (Fresh8 w.heap.size p f' q' k K3 (61 * (j : Int) + 60) (1 + 4000 * (j : Int) + 3400 + (j3 : Int)) 100000 VV x2 d1) := Lib.hid (HFR.out.move (S := Just bt) (fun i e => by rw [show i = bt from e]; exact HK3t.out) T2'.out (fun i e => ⟨.inl e, Nat.lt_of_lt_of_le (HFR.out.down.kin i e) T2'.out.size⟩))
        have HBTW : Hid (w.heap.size <= bt) := Lib.hid HBT0.out
        have HAL2 : Hid (At x2 b11 54 (lfC ⟨xA, xn, xcap, xacts, fu, pi, xM, mn, mcap, ms⟩)) := Lib.hid ((HAL.out.kept T1.out (fun e => e.2 HK3l.out)).kept T2'.out (fun e => HB11N.out.1 e))
        have HR92 := Lib.hid (Theirs.own_turned (Theirs.own_turned HR9.out T1.out (fun r e h => h.2 (HK39.out r e))) T2'.out (fun r e h => HNB9.out r e h))
        have HR122 := Lib.hid (Theirs.own_turned (Theirs.own_turned HR12.out T1.out (fun r e h => h.2 (HK312.out r e))) T2'.out (fun r e h => HNB12.out r e h))
        have B2' : Hid (Below w.heap.size w x2) := Lib.hid (by
         have h1 := HB.out.trans (mayB_below T1.out HB.out.size)
         exact h1.trans (T2'.out.below (fun i hi => by rw [show i = bt from hi]; exact HBTW.out) h1.size))
        have z3 : x2.cell? ⟨b11, 3, none⟩ = some (.slice xM mn mcap) := HAL2.out.cell 3
        clear y0 y1 AG HAT HAL HR9 HR12 HB T1 T2' HFR HAT1 HNB9 HNB12
        by_cases hlt3 : j3 < mn
        ·have hlt3' : (j3 : Int) < (mn : Int) := by omega
         obtain ⟨ad, hxM, _, hcm⟩ := HHMW.out.cell (by omega)
         obtain ⟨hcw, hm0, hm1⟩ := hcm j3 hlt3
         obtain ⟨mm, hmm⟩ : ∃ mm, mm = nm ms j3 := ⟨_, rfl⟩
         rw [<- hmm] at hcw hm0 hm1
         subst hxM
         have HLW := Lib.hid (World.block_lt_of_cell? w _ hcw)
         have HCW := Lib.hid hcw
         have hwr : IntKind.i64.wrap mm = mm := by rw [IntKind.wrap_i64]; omega
         have HBD : Hid (Below x2.heap.size x2 x2.drew) := Lib.hid (Below.refl _ x2).drew
         have hpw : ((2 : Int) ^ j3) = ((2 ^ j3 : Nat) : Int) := by first | norm_cast | (rw [Int.natCast_pow]; rfl)
         have z0 : 0 <= U pi / (2 : Int) ^ j3 := by
          rw [hpw]
          exact Int.ediv_nonneg (U_nonneg pi) (Int.natCast_nonneg _)
         have z1 : U pi / (2 : Int) ^ j3 < 4294967296 := Int.lt_of_le_of_lt (Int.ediv_le_self _ (U_nonneg pi)) (U_lt pi)
         have FU := Lib.hid (show Calls Tryz.prog 24 #[.pointer (some ⟨p, 0, none⟩), .int .i64 (IntKind.i64.wrap mm), .int .u32 (U pi / 2 ^ j3)] x2.drew fun e w' => e = .returned (.tuple #[]) /\ (∃ d', Fresh8 w.heap.size p f' q' k K3 (61 * (j : Int) + 60) (1 + 4000 * (j : Int) + 3400 + (j3 : Int)) 100000 VV w' d') /\ Turned (May w.heap.size K3) x2.drew w' from by
          obtain ⟨vz, hvz⟩ := U_of z0 z1
          rw [hvz, hwr]
          exact (HFR2.out.move (K' := K3) (S := NoBlock) (fun _ e => e.elim) (Turned.of_below HBD.out (Nat.le_refl _) _) (fun i e => ⟨.inl e, Nat.lt_of_lt_of_le (HFR2.out.down.kin i e) HBD.out.size⟩)).fuse mm vz (by omega))
         have HTB : Hid (Turned NoBlock x2 x2.drew) := Lib.hid (Turned.of_below HBD.out (Nat.le_refl _) NoBlock)
         have n0 : x2.drew.cell? ⟨bt, 0, none⟩ = some (.pointer (some ⟨p, 0, none⟩)) := (HA2.out.kept HTB.out (fun h => h)).cell 0
         have n1 : x2.drew.cell? ⟨b11, 3, none⟩ = some (.slice (some ad) mn mcap) := (HAL2.out.kept HTB.out (fun h => h)).cell 3
         have n2 : x2.drew.cell? ⟨b11, 2, none⟩ = some (.int .u32 (U pi)) := (HAL2.out.kept HTB.out (fun h => h)).cell 2
         have BD' := Lib.hid (B2'.out.trans (HBD.out.mono B2'.out.size))
         have n3 : x2.drew.cell? (ad.add j3) = some (.int .u8 mm) := (BD'.out.cell (p := ad.add j3) HLW.out).trans HCW.out
         clear hcm hcw hmm hwr hpw z0 z1
         go_upto_region 40 with (fail)
         go_region_held3 (fun W => W.cell? ⟨bt, 0, none⟩ = some (.pointer (some ⟨p, 0, none⟩)) /\ W.cell? ⟨b11, 3, none⟩ = some (.slice (some ad) mn mcap) /\ W.cell? ⟨b11, 2, none⟩ = some (.int .u32 (U pi)) /\ W.cell? (ad.add j3) = some (.int .u8 mm)) (first | assumption | exact ⟨n0, n1, n2, n3⟩) (first
          | (go_at_call 24; (with_reducible refine FU.out.mono ?_); rintro e x3 ⟨rfl, ⟨d3', hf3⟩, t3⟩; have HFR3 := Lib.hid hf3; have T3 := Lib.hid t3; have HAT3 : Hid (At x3 bt 27 (wdC p q')) := Lib.hid ((HA2.out.kept HTB.out (fun h => h)).kept T3.out (fun e => e.2 HK3t.out)); have HAL3 := Lib.hid ((HAL2.out.kept HTB.out (fun h => h)).kept T3.out (fun e => e.2 HK3l.out)); have B3' := Lib.hid (BD'.out.trans (mayB_below T3.out BD'.out.size)); have S3 : x3.cell? ⟨bt, 0, none⟩ = some (.pointer (some ⟨p, 0, none⟩)) /\ x3.cell? ⟨b11, 3, none⟩ = some (.slice (some ad) mn mcap) /\ x3.cell? ⟨b11, 2, none⟩ = some (.int .u32 (U pi)) /\ x3.cell? (ad.add j3) = some (.int .u8 mm) := ⟨HAT3.out.cell 0, HAL3.out.cell 3, HAL3.out.cell 2, (B3'.out.cell (p := ad.add j3) HLW.out).trans HCW.out⟩; clear hf3 t3))
         have HR93 := Lib.hid (Theirs.own_turned (Theirs.own_turned HR92.out HTB.out (fun _ _ h => h)) T3.out (fun r e h => h.2 (HK39.out r e)))
         have HR123 := Lib.hid (Theirs.own_turned (Theirs.own_turned HR122.out HTB.out (fun _ _ h => h)) T3.out (fun r e h => h.2 (HK312.out r e)))
         clear z3 S3 n0 n1 n2 n3 HA2 HAL2 HR92 HR122 B2' BD' HFR2 FU T3 HTB HBD HL0
         have MO := Lib.hid ((HFR3.out.mount (by omega) (by omega) (by omega)).mono fun e w' h => h.v)
         have m1 : x3.cell? ⟨bt, 1, none⟩ = some (.pointer (some ⟨q', 0, none⟩)) := HAT3.out.cell 1
         obtain ⟨s9, hs9⟩ : ∃ s9, s9 = x3.heap.size := ⟨_, rfl⟩
         rw [<- hs9] at MO
         clear hs9
         go_upto_region 42 with (first
          | (go_at_call 19; (with_reducible refine MO.out.mono ?_); rintro e x4 ⟨ps, ee, rfl, hdis, t4⟩; have HDIS := Lib.hid hdis; have T4 := Lib.hid t4; clear hdis t4))
         have HAT4 : Hid (At x4 bt 27 (wdC p q')) := Lib.hid (HAT3.out.kept T4.out (fun e => e.2 HK3t.out))
         have HAL4 := Lib.hid (HAL3.out.kept T4.out (fun e => e.2 HK3l.out))
         have HR94 := Lib.hid (Theirs.own_turned HR93.out T4.out (fun r e h => h.2 (HK39.out r e)))
         have HR124 := Lib.hid (Theirs.own_turned HR123.out T4.out (fun r e h => h.2 (HK312.out r e)))
         have B4' := Lib.hid (B3'.out.trans (mayB_below T4.out B3'.out.size))
         have m0 : x4.cell? ⟨bt, 0, none⟩ = some (.pointer (some ⟨p, 0, none⟩)) := HAT4.out.cell 0
         clear m1 MO HAT3 HAL3 HR93 HR123 B3' T4 HFR3
         rcases HDIS.out with ⟨rfl, rfl, d4, x4s, hw4⟩ | ⟨rfl, rfl, hl, d4, hd4, hup⟩
         ·have HW4 := Lib.hid hw4
          clear HDIS hw4
          go_wp2_with fail
          go_roundw
          case rel => exact ⟨j3 + 1, f', q', by omega, by go_num, HAT4.out, HAL4.out, HR94.out, HR124.out, B4'.out, .inr ⟨s9, rfl, rfl, d4, x4s, HW4.out.grow (by omega) (by omega) (by omega)⟩⟩
          case measure => simp [intOf] <;> omega
         ·have HD4 := Lib.hid hd4
          have UP := hd4.upOf
          rw [hup] at UP
          have HUP := Lib.hid UP
          have HJ3 : Hid (j3 + 1 <= mn) := Lib.hid (by omega)
          clear HDIS hd4 UP hup hl
          go_wp2_with (first
           | (go_at_call 27; (with_reducible refine HUP.out.mono ?_); rintro e x5 ⟨rfl, hw⟩; obtain rfl := hw.symm))
          go_roundw
          case rel => exact ⟨j3 + 1, f', q', by omega, by go_num, HAT4.out, HAL4.out, HR94.out, HR124.out, B4'.out, .inl ⟨rfl, HJ3.out, d4, HD4.out.grow (by omega) (by omega) (by omega)⟩⟩
          case measure => simp [intOf] <;> omega
        ·obtain rfl : j3 = mn := by omega
         have hlt3' : ¬ ((j3 : Int) < (j3 : Int)) := by omega
         obtain ⟨x3, hx3⟩ : ∃ x3, x3 = x2 := ⟨_, rfl⟩
         rw [<- hx3] at HA2 HAL2 HR92 HR122 B2' HFR2 z3 ⊢
         have HAT3 := HA2
         have HAL3 := HAL2
         have HR93 := HR92
         have HR123 := HR122
         have B3' := B2'
         have HFR3 := HFR2
         have HLF0 := HL0
         clear hx3 HA2 HAL2 HR92 HR122 B2' HFR2
         go_upto_region 41 with (fail)
         clear z3
         have MO := Lib.hid ((HFR3.out.mount (by omega) (by omega) (by omega)).mono fun e w' h => h.v)
         have m1 : x3.cell? ⟨bt, 1, none⟩ = some (.pointer (some ⟨q', 0, none⟩)) := HAT3.out.cell 1
         obtain ⟨s9, hs9⟩ : ∃ s9, s9 = x3.heap.size := ⟨_, rfl⟩
         rw [<- hs9] at MO
         clear hs9
         go_upto_region 42 with (first
          | (go_at_call 19; (with_reducible refine MO.out.mono ?_); rintro e x4 ⟨ps, ee, rfl, hdis, t4⟩; have HDIS := Lib.hid hdis; have T4 := Lib.hid t4; clear hdis t4))
         have HAT4 : Hid (At x4 bt 27 (wdC p q')) := Lib.hid (HAT3.out.kept T4.out (fun e => e.2 HK3t.out))
         have HAL4 := Lib.hid (HAL3.out.kept T4.out (fun e => e.2 HK3l.out))
         have HR94 := Lib.hid (Theirs.own_turned HR93.out T4.out (fun r e h => h.2 (HK39.out r e)))
         have HR124 := Lib.hid (Theirs.own_turned HR123.out T4.out (fun r e h => h.2 (HK312.out r e)))
         have B4' := Lib.hid (B3'.out.trans (mayB_below T4.out B3'.out.size))
         have m0 : x4.cell? ⟨bt, 0, none⟩ = some (.pointer (some ⟨p, 0, none⟩)) := HAT4.out.cell 0
         clear m1 MO HAT3 HAL3 HR93 HR123 B3' T4 HFR3
         rcases HDIS.out with ⟨rfl, rfl, d4, x4s, hw4⟩ | ⟨rfl, rfl, hl, d4, hd4, hup⟩
         ·have HW4 := Lib.hid hw4
          clear HDIS hw4
          go_wp2_with fail
          go_roundw
          case rel => exact ⟨j3 + 1, f', q', by omega, by go_num, HAT4.out, HAL4.out, HR94.out, HR124.out, B4'.out, .inr ⟨s9, rfl, rfl, d4, x4s, HW4.out.grow (by omega) (by omega) (by omega)⟩⟩
          case measure => simp [intOf] <;> omega
         ·have HD4 := Lib.hid hd4
          have UP := hd4.upOf
          rw [hup] at UP
          have HUP := Lib.hid UP
          have HJ3 : Hid (j3 + 1 <= j3) := Lib.hid (by exact absurd HLF0.out hl)
          clear HDIS hd4 UP hup hl
          go_wp2_with (first
           | (go_at_call 27; (with_reducible refine HUP.out.mono ?_); rintro e x5 ⟨rfl, hw⟩; obtain rfl := hw.symm))
          go_roundw
          case rel => exact ⟨j3 + 1, f', q', by omega, by go_num, HAT4.out, HAL4.out, HR94.out, HR124.out, B4'.out, .inl ⟨rfl, HJ3.out, d4, HD4.out.grow (by omega) (by omega) (by omega)⟩⟩
          case measure => simp [intOf] <;> omega
       ·by_cases hjm : j3 <= mn
        ·have hjm' : (j3 : Int) <= (mn : Int) := by omega
         go_upto_region 46 with (fail)
         clear z3 LENM
         obtain ⟨d, x, hwf⟩ := hs
         have FZ := Lib.hid (hwf.fuse 0 0#32 (by omega))
         rw [show U 0#32 = 0 from rfl] at FZ
         have z0 : wr.cell? ⟨bt, 0, none⟩ = some (.pointer (some ⟨p, 0, none⟩)) := HAT.out.cell 0
         clear hwf
         go_upto_region 47 with (first
          | (go_at_call 24; (with_reducible refine FZ.out.mono ?_); rintro e x7 ⟨rfl, ⟨d7, _, s7⟩, t7⟩; have HW7 := Lib.hid (s7 rfl); have T7 := Lib.hid t7; clear s7 t7))
         have VA := HW7.out.values (by omega) HVV.out
         unfold ValsOut at VA
         rw [<- HS.out] at VA
         have HVA := Lib.hid VA
         have HAT7 : Hid (At x7 bt 27 (wdC p q)) := Lib.hid (HAT.out.kept T7.out (fun e => e.2 HK3t.out))
         have HR97 := Lib.hid (Theirs.own_turned HR9.out T7.out (fun r e h => h.2 (HK39.out r e)))
         have HR127 := Lib.hid (Theirs.own_turned HR12.out T7.out (fun r e h => h.2 (HK312.out r e)))
         have B7 := Lib.hid (HB.out.trans (mayB_below T7.out HB.out.size))
         clear VA z0 FZ HAT HAL HR9 HR12 HB T7
         go_upto_region 48 with (first
          | (go_at_call 20; (with_reducible refine HVA.out.mono ?_); rintro e x8 ⟨vg, d8, rfl, hrow8, hw8, t8⟩; have HROW8 := Lib.hid hrow8; have HW8 := Lib.hid hw8; have T8 := Lib.hid t8; clear hrow8 hw8 t8))
         have HAT8 : Hid (At x8 bt 27 (wdC p q)) := Lib.hid (HAT7.out.kept T8.out (fun e => e.2 HK3t.out))
         have HR98 := Lib.hid (Theirs.own_turned HR97.out T8.out (fun r e h => h.2 (HK39.out r e)))
         have HR128 := Lib.hid (Theirs.own_turned HR127.out T8.out (fun r e h => h.2 (HK312.out r e)))
         have B8 := Lib.hid (B7.out.trans (mayB_below T8.out B7.out.size))
         have HRG : Hid (x8.ownsRow w.heap.size 44 4 vg S (vls VV S)) := Lib.hid (own_lower HROW8.out B7.out.size)
         have HWN : Hid (Well False w.heap.size p f q s k (KV (Just bt) vg) (61 * ((j + 1 : Nat) : Int)) (1 + 4000 * ((j + 1 : Nat) : Int)) 1000000 100000 VV x8 d8 x) := Lib.hid ((HW8.out.less (fun i e => by
          rcases e with e | e
          ·exact .inl (by rw [show i = bt from e]; exact HK3t.out)
          ·exact .inr e)).grow (by omega) (by omega) (by omega))
         obtain ⟨AG, capG, rfl, RG⟩ := own_readsV HVV.out HRG.out
         have HRGG := Lib.hid RG
         have S12 := Lib.hid (fun W (hW : Below x8.heap.size x8 W) => same8_some (HRGG.out.kept hW) ((own_vals HV9.out HR98.out).kept hW) (by omega))
         have RT := Lib.hid (fun W (hW : Below x8.heap.size x8 W) => (HWN.out.below hW).retired)
         clear RG HVA HROW8 HW8 T8 HAT7 HR97 HR127 B7 HW7
         rcases HCASE.out with hc | hc
         ·have SA : Hid (Calls Tryz.prog 21 #[.slice AG S capG, .slice A9 S cap9] x8 fun e w' => e = .returned (.bool true) /\ Below x8.heap.size x8 w') := Lib.hid (same8_any HRGG.out (by have h1 := HR98.out; rw [<- hc] at h1; exact own_vals HVV.out h1) (by omega))
          go_wp2_with (first
           | (go_at_call 21; (with_reducible refine SA.out.mono ?_); rintro e x9 ⟨rfl, hb9⟩; have HB9 := Lib.hid hb9; clear hb9)
           | (go_at_call 22; (with_reducible refine (RT.out _ HB9.out).mono ?_); rintro e x10 ⟨rfl, hw⟩; obtain rfl := hw.symm))
          go_roundw
          case rel =>
           have tb := Turned.of_below HB9.out (Nat.le_refl _) NoBlock
           exact ⟨j + 1, s, f, q, d8, x, VV, by omega, by go_num, rfl, HWN.out.below HB9.out, HVV.out, HAT8.out.kept tb (fun h => h), Theirs.own_turned HRG.out tb (fun _ _ h => h), B8.out.trans (HB9.out.mono B8.out.size)⟩
          case measure => simp [intOf]; omega
         ·have SA : Hid (∀ W, Below x8.heap.size x8 W -> Calls Tryz.prog 21 #[.slice AG S capG, .slice A12 S cap12] W fun e w' => e = .returned (.bool true) /\ Below W.heap.size W w') := Lib.hid (fun W hW => same8_any (HRGG.out.kept hW) (by have h1 := HR128.out; rw [<- hc] at h1; exact (own_vals HVV.out h1).kept hW) (by omega))
          go_wp2_with fail
          refine (S12.out _ (Below.refl _ _)).mono ?_
          rintro e x9 ⟨⟨bs, rfl⟩, hb9⟩
          have HB9 := Lib.hid hb9
          clear hb9
          cases bs
          ·go_wp2_with (first
            | (go_at_call 21; (refine (SA.out _ HB9.out).mono ?_); rintro e x9b ⟨rfl, hb9⟩; have HB9b := Lib.hid (HB9.out.trans (hb9.mono HB9.out.size)); clear hb9)
            | (go_at_call 22; (with_reducible refine (RT.out _ HB9b.out).mono ?_); rintro e x10 ⟨rfl, hw⟩; obtain rfl := hw.symm))
           go_roundw
           case rel =>
            have tb := Turned.of_below HB9b.out (Nat.le_refl _) NoBlock
            exact ⟨j + 1, s, f, q, d8, x, VV, by omega, by go_num, rfl, HWN.out.below HB9b.out, HVV.out, HAT8.out.kept tb (fun h => h), Theirs.own_turned HRG.out tb (fun _ _ h => h), B8.out.trans (HB9b.out.mono B8.out.size)⟩
           case measure => simp [intOf]; omega
          ·go_wp2_with (first
            | (go_at_call 22; (with_reducible refine (RT.out _ HB9.out).mono ?_); rintro e x10 ⟨rfl, hw⟩; obtain rfl := hw.symm))
           go_roundw
           case rel =>
            have tb := Turned.of_below HB9.out (Nat.le_refl _) NoBlock
            exact ⟨j + 1, s, f, q, d8, x, VV, by omega, by go_num, rfl, HWN.out.below HB9.out, HVV.out, HAT8.out.kept tb (fun h => h), Theirs.own_turned HRG.out tb (fun _ _ h => h), B8.out.trans (HB9.out.mono B8.out.size)⟩
           case measure => simp [intOf]; omega
        ·have hjm' : ¬ ((j3 : Int) <= (mn : Int)) := by omega
         go_upto_region 46 with (fail)
         clear z3 LENM
         obtain ⟨d, x, hwf⟩ := hs
         have FZ := Lib.hid (hwf.fuse 0 0#32 (by omega))
         rw [show U 0#32 = 0 from rfl] at FZ
         have z0 : wr.cell? ⟨bt, 0, none⟩ = some (.pointer (some ⟨p, 0, none⟩)) := HAT.out.cell 0
         clear hwf
         go_upto_region 47 with (first
          | (go_at_call 24; (with_reducible refine FZ.out.mono ?_); rintro e x7 ⟨rfl, ⟨d7, _, s7⟩, t7⟩; have HW7 := Lib.hid (s7 rfl); have T7 := Lib.hid t7; clear s7 t7))
         have VA := HW7.out.values (by omega) HVV.out
         unfold ValsOut at VA
         rw [<- HS.out] at VA
         have HVA := Lib.hid VA
         have HAT7 : Hid (At x7 bt 27 (wdC p q)) := Lib.hid (HAT.out.kept T7.out (fun e => e.2 HK3t.out))
         have HR97 := Lib.hid (Theirs.own_turned HR9.out T7.out (fun r e h => h.2 (HK39.out r e)))
         have HR127 := Lib.hid (Theirs.own_turned HR12.out T7.out (fun r e h => h.2 (HK312.out r e)))
         have B7 := Lib.hid (HB.out.trans (mayB_below T7.out HB.out.size))
         clear VA z0 FZ HAT HAL HR9 HR12 HB T7
         go_upto_region 48 with (first
          | (go_at_call 20; (with_reducible refine HVA.out.mono ?_); rintro e x8 ⟨vg, d8, rfl, hrow8, hw8, t8⟩; have HROW8 := Lib.hid hrow8; have HW8 := Lib.hid hw8; have T8 := Lib.hid t8; clear hrow8 hw8 t8))
         have HAT8 : Hid (At x8 bt 27 (wdC p q)) := Lib.hid (HAT7.out.kept T8.out (fun e => e.2 HK3t.out))
         have HR98 := Lib.hid (Theirs.own_turned HR97.out T8.out (fun r e h => h.2 (HK39.out r e)))
         have HR128 := Lib.hid (Theirs.own_turned HR127.out T8.out (fun r e h => h.2 (HK312.out r e)))
         have B8 := Lib.hid (B7.out.trans (mayB_below T8.out B7.out.size))
         have HRG : Hid (x8.ownsRow w.heap.size 44 4 vg S (vls VV S)) := Lib.hid (own_lower HROW8.out B7.out.size)
         have HWN : Hid (Well False w.heap.size p f q s k (KV (Just bt) vg) (61 * ((j + 1 : Nat) : Int)) (1 + 4000 * ((j + 1 : Nat) : Int)) 1000000 100000 VV x8 d8 x) := Lib.hid ((HW8.out.less (fun i e => by
          rcases e with e | e
          ·exact .inl (by rw [show i = bt from e]; exact HK3t.out)
          ·exact .inr e)).grow (by omega) (by omega) (by omega))
         obtain ⟨AG, capG, rfl, RG⟩ := own_readsV HVV.out HRG.out
         have HRGG := Lib.hid RG
         have S12 := Lib.hid (fun W (hW : Below x8.heap.size x8 W) => same8_some (HRGG.out.kept hW) ((own_vals HV9.out HR98.out).kept hW) (by omega))
         have RT := Lib.hid (fun W (hW : Below x8.heap.size x8 W) => (HWN.out.below hW).retired)
         clear RG HVA HROW8 HW8 T8 HAT7 HR97 HR127 B7 HW7
         rcases HCASE.out with hc | hc
         ·have SA : Hid (Calls Tryz.prog 21 #[.slice AG S capG, .slice A9 S cap9] x8 fun e w' => e = .returned (.bool true) /\ Below x8.heap.size x8 w') := Lib.hid (same8_any HRGG.out (by have h1 := HR98.out; rw [<- hc] at h1; exact own_vals HVV.out h1) (by omega))
          go_wp2_with (first
           | (go_at_call 21; (with_reducible refine SA.out.mono ?_); rintro e x9 ⟨rfl, hb9⟩; have HB9 := Lib.hid hb9; clear hb9)
           | (go_at_call 22; (with_reducible refine (RT.out _ HB9.out).mono ?_); rintro e x10 ⟨rfl, hw⟩; obtain rfl := hw.symm))
          go_roundw
          case rel =>
           have tb := Turned.of_below HB9.out (Nat.le_refl _) NoBlock
           exact ⟨j + 1, s, f, q, d8, x, VV, by omega, by go_num, rfl, HWN.out.below HB9.out, HVV.out, HAT8.out.kept tb (fun h => h), Theirs.own_turned HRG.out tb (fun _ _ h => h), B8.out.trans (HB9.out.mono B8.out.size)⟩
          case measure => simp [intOf]; omega
         ·have SA : Hid (∀ W, Below x8.heap.size x8 W -> Calls Tryz.prog 21 #[.slice AG S capG, .slice A12 S cap12] W fun e w' => e = .returned (.bool true) /\ Below W.heap.size W w') := Lib.hid (fun W hW => same8_any (HRGG.out.kept hW) (by have h1 := HR128.out; rw [<- hc] at h1; exact (own_vals HVV.out h1).kept hW) (by omega))
          go_wp2_with fail
          refine (S12.out _ (Below.refl _ _)).mono ?_
          rintro e x9 ⟨⟨bs, rfl⟩, hb9⟩
          have HB9 := Lib.hid hb9
          clear hb9
          cases bs
          ·go_wp2_with (first
            | (go_at_call 21; (refine (SA.out _ HB9.out).mono ?_); rintro e x9b ⟨rfl, hb9⟩; have HB9b := Lib.hid (HB9.out.trans (hb9.mono HB9.out.size)); clear hb9)
            | (go_at_call 22; (with_reducible refine (RT.out _ HB9b.out).mono ?_); rintro e x10 ⟨rfl, hw⟩; obtain rfl := hw.symm))
           go_roundw
           case rel =>
            have tb := Turned.of_below HB9b.out (Nat.le_refl _) NoBlock
            exact ⟨j + 1, s, f, q, d8, x, VV, by omega, by go_num, rfl, HWN.out.below HB9b.out, HVV.out, HAT8.out.kept tb (fun h => h), Theirs.own_turned HRG.out tb (fun _ _ h => h), B8.out.trans (HB9b.out.mono B8.out.size)⟩
           case measure => simp [intOf]; omega
          ·go_wp2_with (first
            | (go_at_call 22; (with_reducible refine (RT.out _ HB9.out).mono ?_); rintro e x10 ⟨rfl, hw⟩; obtain rfl := hw.symm))
           go_roundw
           case rel =>
            have tb := Turned.of_below HB9.out (Nat.le_refl _) NoBlock
            exact ⟨j + 1, s, f, q, d8, x, VV, by omega, by go_num, rfl, HWN.out.below HB9.out, HVV.out, HAT8.out.kept tb (fun h => h), Theirs.own_turned HRG.out tb (fun _ _ h => h), B8.out.trans (HB9.out.mono B8.out.size)⟩
           case measure => simp [intOf]; omega
    ·obtain rfl : j = n := by omega
     go_wp2
     go_ret
     exact ⟨rfl, HB.out⟩
end Go.Proofs.YtnfgpjfldgocaaaGreat
