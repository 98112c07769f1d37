/- The walk of layer ftl's statement FtlAgain: mounted once more, and formatted once more, a store is what it has to be. -/
import Derived.Test.YtnfgpjfldgocaaaGreatFtlHp
import Derived.Test.YtnfgpjfldgocaaaGreatFtlOp
import Derived.Test.YtnfgpjfldgocaaaGreatLaw
import Derived.OpenShut
namespace Go.Proofs.YtnfgpjfldgocaaaGreat
open Go.RowKit Bm Go.Shelf

theorem a8_size : (Tryz.prog.info? 40).map (·.size) = some 3 := by kernel_rfl
def a8Z : List Value := [.int .u8 0, .int .i64 0, .int .u32 0]
theorem a8_one (x : Act8) : ∀ u ∈ a8C x, u.oneCell' = true := by
  intro u hu
  simp only [a8C, List.mem_cons, List.not_mem_nil, or_false] at hu
  rcases hu with rfl | rfl | rfl <;> rfl
theorem wdC_one (p q : Nat) : ∀ u ∈ wdC p q, u.oneCell' = true := by
  intro u hu
  simp only [wdC, List.mem_cons, List.not_mem_nil, or_false] at hu
  rcases hu with rfl | rfl <;> rfl
theorem d40_len : d40.length = 4 := rfl
theorem val8_len (k : Nat) (a : Act8) (V : BitVec 32 → List (BitVec 32)) (hV : ∀ n, (V n).length = 4) (n : BitVec 32) : (val8 k a V n).length = 4 := by
  unfold val8
  split
  · unfold v8
    split <;> rfl
  · exact hV n
section
variable {C : Prop} {B p f q s k : Nat} {K : Nat → Prop} {Q W T E : Int} {V : BitVec 32 → List (BitVec 32)} {d : DrvM} {x : StoM} {w w' : World}
theorem ReadsA8.at_ {A : Option Addr} {n cap : Nat} {xs : List Act8} (h : ReadsA8 w A n cap xs) {j : Nat} (hj : j < n) : ∃ g off x, A = some ⟨g, off, none⟩ ∧ A8Ok x ∧ xs[j]? = some x ∧ w.cell? ⟨g, off + j * 3, none⟩ = some (.int .u8 x.k) ∧ w.cell? ⟨g, off + j * 3 + 1, none⟩ = some (.int .i64 x.s) ∧ w.cell? ⟨g, off + j * 3 + 2, none⟩ = some (.int .u32 (U x.v)) := by
  obtain ⟨g, off, e, _, hc⟩ := h.cell (by omega)
  have hl := h.len
  have hx : xs[j]? = some xs[j] := List.getElem?_eq_getElem (by omega)
  obtain ⟨h1, h2⟩ := hc j _ hx
  exact ⟨g, off, xs[j], e, h1, hx, h2 0 _ rfl, h2 1 _ rfl, h2 2 _ rfl⟩
theorem Well.grow {Q' W' T' : Int} (h : Well C B p f q s k K Q W T E V w d x) (hQ : Q ≤ Q') (hW : W ≤ W') (hT : T ≤ T') : Well C B p f q s k K Q' W' T' E V w d x := by
  obtain ⟨hs, hf, hl, he, h0, h1, hv⟩ := h
  exact ⟨hs, ⟨hf.sys, hf.head, hf.ret, hf.off, hf.un, hf.sec, fun p hp => by have := hf.seq p hp; omega, hf.emp, fun b => by have := hf.wear b; omega, hf.cw, hf.en⟩, hl, he, h0, by omega, hv⟩
theorem Well.dv (h : Well C B p f q s k K Q W T E V w d x) : Dv B p f q k K d w := by
  obtain ⟨⟨g, hs⟩, _⟩ := h
  exact hs.dv.less fun i e => .inl e
/-- Fewer blocks are kept. -/
theorem Well.less (h : Well C B p f q s k K Q W T E V w d x) {K' : Nat → Prop} (hk : ∀ i, K' i → K i) : Well C B p f q s k K' Q W T E V w d x := by
  obtain ⟨⟨g, hs⟩, h2, h3, h4, h5, h6, h7⟩ := h
  exact ⟨⟨g, hs.less hk⟩, h2, h3, h4, h5, h6, h7⟩
end

set_option maxRecDepth 100000 in
set_option maxHeartbeats 4000000 in
theorem ftlAgain_walk (A : Option Addr) (n cap : Nat) (xs : List Act8) (w : World) (hr : ReadsA8 w A n cap xs) :
    Calls Tryz.prog 9 #[.slice A n cap] w fun e w' => e = .returned (.bool true) ∧ Below w.heap.size w w' := by
  have hle := hr.le
  have hmx := hr.max
  unfold maxLen at hmx
  have HR := Lib.hid hr
  clear hr
  go_enter Tryz.func9, Tryz.ntmps9
  go_upto_region 3 with (first
    | (go_at_call 10; (refine (alive8_any w).mono ?_); rintro e wa ⟨rfl, hBa⟩; have HBA := Lib.hid hBa; clear hBa))
  by_cases hn60 : 60 < n
  · have hn' : (60 : Int) < (n : Int) := by omega
    go_wp2
    go_ret
    exact ⟨rfl, HBA.out⟩
  have hn' : ¬ ((60 : Int) < (n : Int)) := by omega
  go_upto_region 6 with (first
    | (go_at_call 11; (refine (begin8_any (B := w.heap.size) 6 100000 wa HBA.out.size (by omega) (by omega) (by omega) (by omega)).mono ?_); rintro e w1 ⟨p, f, q, rfl, s0, b1⟩; have S1 : Hid (Dv w.heap.size p f q 6 NoBlock ⟨fNew (mNew 6 100000), 0⟩ w1) := Lib.hid s0; have B1 := Lib.hid (HBA.out.trans (b1.mono HBA.out.size)); clear s0 b1)
    | (refine wpList_stm (pre := []) (post := []) (xs := wd0) (ys := wdC p q) _ _ rfl rfl rfl rfl wd_size rfl rfl (wdC_one p q) rfl (by simp) (At.news w1 _ wd0) ?_; intro w2 A2 T2; rw [List.nil_append, List.append_nil] at A2; have HA2 := Lib.hid A2; have HB2 : Hid (Below w1.heap.size w1 w2) := Lib.hid (((Below.refl _ w1).alloc (Nat.le_refl _) _).trans (T2.below (fun i hi => by unfold Just at hi; omega) (by simp))); clear A2 T2))
  obtain ⟨bt, hbt⟩ : ∃ bt, bt = w1.heap.size := ⟨_, rfl⟩
  rw [← hbt] at HA2 ⊢
  have B2 := Lib.hid (B1.out.trans (HB2.out.mono B1.out.size))
  have HBT0 : Hid (w.heap.size ≤ bt) := Lib.hid (by rw [hbt]; exact B1.out.size)
  have S2 : Hid (Dv w.heap.size p f q 6 (Just bt) ⟨fNew (mNew 6 100000), 0⟩ w2) := Lib.hid (S1.out.move rfl (S := NoBlock) (fun _ e => e.elim) (Turned.of_below HB2.out (Nat.le_refl _) _) (fun i e => by unfold Just at e; rw [e]; exact ⟨.inr (by omega), HA2.out.lt⟩))
  have FO := Lib.hid (format_new (C := True) S2.out (by omega) (by omega) (by omega) (by omega))
  have c1 : w2.cell? ⟨bt, 1, none⟩ = some (.pointer (some ⟨q, 0, none⟩)) := HA2.out.cell 1
  obtain ⟨s1, hs1⟩ : ∃ s1, s1 = w2.heap.size := ⟨_, rfl⟩
  rw [← hs1] at FO
  clear hbt hs1 S1
  go_upto_region 9 with (first
    | (go_at_call 12; (with_reducible refine FO.out.mono ?_); rintro e w3 ⟨rfl, ⟨d3, x3, s3⟩, t3⟩; have S3 := Lib.hid s3; have T3 := Lib.hid t3; clear s3 t3))
  have HA3 : Hid (At w3 bt 27 (wdC p q)) := Lib.hid (HA2.out.kept T3.out (fun e => e.2 rfl))
  have B3 := Lib.hid (B2.out.trans (mayB_below T3.out B2.out.size))
  clear c1 FO S2 HA2 B2
  go_wp2
  go_loopw [46] (fun i wr => ∃ (j : Nat) (d : DrvM) (x : StoM) (V : BitVec 32 → List (BitVec 32)), j ≤ n ∧ i = .int .i64 j ∧ Well True w.heap.size p f q s1 6 (Just bt) (j : Int) (1 + 48 * (j : Int)) (600 + 147000 * (j : Int)) 100000 V wr d x ∧ (∀ n, (V n).length = 4) ∧ At wr bt 27 (wdC p q) ∧ Below w.heap.size w wr) (fun i _ => n - (intOf i).toNat)
  case atStart => exact ⟨0, d3, x3, _, by omega, rfl, S3.out.grow (by omega) (by omega) (by omega), fun _ => d40_len, HA3.out, B3.out⟩
  case round =>
    obtain ⟨j, d, x, V, hj, rfl, hwell, hV, hA, hB⟩ := hrel
    have HWE := Lib.hid hwell
    have HV := Lib.hid hV
    have HA := Lib.hid hA
    have HB := Lib.hid hB
    clear hwell hV hA hB S3 HA3 B3 T3
    by_cases hlt : j < n
    · have j0 : (0 : Int) ≤ (j : Int) := by omega
      have j1 : (j : Int) < (n : Int) := by omega
      obtain ⟨g, off, y, rfl, hy, _, y0, y1, y2⟩ := (HR.out.kept HB.out).at_ hlt
      have HY := Lib.hid hy
      have HY8 : Hid (a8C y = [.int .u8 y.k, .int .i64 y.s, .int .u32 (U y.v)]) := Lib.hid rfl
      clear hy
      go_upto_region 14 with (first
        | (refine wpList_stm (pre := []) (post := []) (xs := a8Z) (ys := a8C y) _ _ rfl rfl rfl rfl a8_size rfl rfl (a8_one y) rfl (by simp) (At.news wr _ a8Z) ?_; intro w4 A4 T4; rw [List.nil_append, List.append_nil] at A4; have HA4 := Lib.hid A4; have HB4 : Hid (Below wr.heap.size wr w4) := Lib.hid (((Below.refl _ wr).alloc (Nat.le_refl _) _).trans (T4.below (fun i hi => by unfold Just at hi; omega) (by simp))); clear A4 T4))
      have DO := Lib.hid ((HWE.out.below HB4.out).act (by omega) (by omega) (by omega) (by omega) (by omega) (by omega) y HY.out)
      have z0 : w4.cell? ⟨wr.heap.size, 0, none⟩ = some (.int .u8 y.k) := HA4.out.cell 0
      have z1 : w4.cell? ⟨wr.heap.size, 1, none⟩ = some (.int .i64 y.s) := HA4.out.cell 1
      have z2 : w4.cell? ⟨wr.heap.size, 2, none⟩ = some (.int .u32 (U y.v)) := HA4.out.cell 2
      clear y0 y1 y2
      go_wp2_with (first
        | (go_at_call 16; (with_reducible refine DO.out.mono ?_); rintro e w5 ⟨rfl, ⟨d5, x5, s5⟩, t5⟩; have S5 := Lib.hid s5; have T5 := Lib.hid t5; clear s5 t5))
      go_roundw
      case rel =>
        have b4 := HB.out.trans (HB4.out.mono HB.out.size)
        exact ⟨j + 1, d5, x5, val8 6 y V, by omega, by go_num, S5.out.grow (by omega) (by omega) (by omega), fun n => val8_len 6 y V HV.out n, (HA.out.kept (Turned.of_below HB4.out (Nat.le_refl _) NoBlock) (fun h => h)).kept T5.out (fun e => e.2 rfl), b4.trans (mayB_below T5.out b4.size)⟩
      case measure => simp [intOf]; omega
    · obtain rfl : j = n := by omega
      have HWE' := Lib.hid (HWE.out.grow (Q' := 100) (W' := 5000) (T' := 10000000) (by omega) (by omega) (by omega))
      have VA := Lib.hid (HWE'.out.values (by omega) HV.out)
      clear HWE
      go_upto_region 17 with (first
        | (go_at_call 20; (with_reducible refine VA.out.mono ?_); rintro e w6 ⟨v, d6, rfl, hrow, hw6, t6⟩; have HROW := Lib.hid hrow; have HW6 := Lib.hid hw6; have T6 := Lib.hid t6; clear hrow hw6 t6))
      have HA6 : Hid (At w6 bt 27 (wdC p q)) := Lib.hid (HA.out.kept T6.out (fun e => e.2 rfl))
      have B6 := Lib.hid (HB.out.trans (mayB_below T6.out HB.out.size))
      have HSB : Hid (w.heap.size ≤ wr.heap.size) := Lib.hid HB.out.size
      obtain ⟨K2, hK2⟩ : ∃ K2, K2 = KV (Just bt) v := ⟨_, rfl⟩
      rw [← hK2] at HW6
      have HK2 : Hid (∀ i, K2 i ↔ i = bt ∨ v.ownBlock = some i) := Lib.hid (by rw [hK2]; exact fun i => Iff.rfl)
      have HBTB : Hid (w.heap.size ≤ bt) := Lib.hid HBT0.out
      have HK2B : Hid (K2 bt) := Lib.hid ((HK2.out bt).2 (.inl rfl))
      have HNB : Hid (∀ r, v.ownBlock = some r → r ≠ bt) := Lib.hid (fun r e => by
        have h1 := (HROW.out.lt r e).1
        have h2 := HA.out.lt
        omega)
      have HROW6 : Hid (w6.ownsRow w.heap.size 44 4 v 18 (vls V 18)) := Lib.hid (own_lower HROW.out HSB.out)
      clear hK2 HA VA HROW HB HWE' T6
      go_wp2
      go_loopw [59] (fun i wr => ∃ (j : Nat) (f q s : Nat) (d : DrvM) (x : StoM), j ≤ 3 ∧ i = .int .i64 j ∧ Well True w.heap.size p f q s 6 K2 100 5000 10000000 100000 V wr d x ∧ At wr bt 27 (wdC p q) ∧ wr.ownsRow w.heap.size 44 4 v 18 (vls V 18) ∧ Below w.heap.size w wr) (fun i _ => 3 - (intOf i).toNat)
      case atStart => exact ⟨0, f, q, s1, d6, x, by omega, rfl, HW6.out, HA6.out, HROW6.out, B6.out⟩
      case round =>
        obtain ⟨j, f, q, s, d, x, hj, rfl, hwell, hA, hrow, hB⟩ := hrel
        have HWE := Lib.hid hwell
        have HA := Lib.hid hA
        have HROW := Lib.hid hrow
        have HB := Lib.hid hB
        clear hwell hA hrow hB HW6 HA6 HROW6 B6
        by_cases hlt : j < 3
        · have j0 : (0 : Int) ≤ (j : Int) := by omega
          have j1 : (j : Int) < 3 := by omega
          have AG : Hid (Calls Tryz.prog 26 #[.agg #[.pointer (some ⟨p, 0, none⟩), .pointer (some ⟨q, 0, none⟩)]] wr (AgainW w.heap.size p 6 K2 d wr)) := Lib.hid (again_any q HWE.out.dv HWE.out.ok)
          have a0 : wr.cell? ⟨bt, 0, none⟩ = some (.pointer (some ⟨p, 0, none⟩)) := HA.out.cell 0
          have a1 : wr.cell? ⟨bt, 1, none⟩ = some (.pointer (some ⟨q, 0, none⟩)) := HA.out.cell 1
          go_upto_region 20 with (first
            | (go_at_call 26; (with_reducible refine AG.out.mono ?_); rintro e w7 ⟨f7, q7, rfl, s7, t7⟩; have S7 := Lib.hid s7; have T7 := Lib.hid t7; clear s7 t7)
            | (refine wpList_stm (pre := []) (post := []) (xs := wd0) (ys := wdC p q7) _ _ rfl rfl rfl rfl wd_size rfl rfl (wdC_one p q7) rfl (by simp) (At.news w7 _ wd0) ?_; intro w8 A8 T8; rw [List.nil_append, List.append_nil] at A8; have HA8 := Lib.hid A8; have HB8 : Hid (Below w7.heap.size w7 w8) := Lib.hid (((Below.refl _ w7).alloc (Nat.le_refl _) _).trans (T8.below (fun i hi => by unfold Just at hi; omega) (by simp))); clear A8 T8))
          obtain ⟨b8, hb8⟩ : ∃ b8, b8 = w7.heap.size := ⟨_, rfl⟩
          rw [← hb8] at HA8 ⊢
          have HAt8 : Hid (At w8 bt 27 (wdC p q)) := Lib.hid ((HA.out.kept T7.out (fun e => e.2 HK2B.out)).kept (Turned.of_below HB8.out (Nat.le_refl _) NoBlock) (fun h => h))
          have d0 : w8.cell? ⟨b8, 0, none⟩ = some (.pointer (some ⟨p, 0, none⟩)) := HA8.out.cell 0
          have d1 : w8.cell? ⟨b8, 1, none⟩ = some (.pointer (some ⟨q7, 0, none⟩)) := HA8.out.cell 1
          clear a0 a1 AG hb8
          go_upto_region 23 with (first
            | (refine wpList_stm (pre := []) (post := []) (xs := wdC p q) (ys := wdC p q7) _ _ rfl rfl rfl rfl wd_size rfl rfl (wdC_one p q7) rfl (by simp) HAt8.out ?_; intro w9 A9 T9; rw [List.nil_append, List.append_nil] at A9; have HA9 := Lib.hid A9; have T9' := Lib.hid T9; clear A9 T9))
          have S8 := Lib.hid (S7.out.below HB8.out)
          have S9 : Hid (Dv w.heap.size p f7 q7 6 K2 ⟨fNew (mOn d.f.chip), 0⟩ w9) := Lib.hid (S8.out.lones rfl (S := Just bt) (fun i e => by rw [show i = bt from e]; exact HK2B.out) T9'.out)
          have MO := Lib.hid (mount_fit (T := 10000000) S9.out HWE.out.fit.again rfl HWE.out.endure (Int.le_refl 0) (show (0 : Int) ≤ 10000000 by omega) HWE.out.val (by omega) (by omega))
          have HROW9 : Hid (w9.ownsRow w.heap.size 44 4 v 18 (vls V 18)) := Lib.hid (by
            have h1 := Theirs.own_turned HROW.out T7.out (fun r e h => h.2 ((HK2.out r).2 (.inr e)))
            have h2 := Theirs.own_turned h1 (Turned.of_below HB8.out (Nat.le_refl _) NoBlock) (fun _ _ h => h)
            exact Theirs.own_turned h2 T9'.out (fun r e => HNB.out r e))
          have T79 : Hid (Below w.heap.size w w9) := Lib.hid (by
            have h1 := HB.out.trans (mayB_below T7.out HB.out.size)
            have h2 := h1.trans (HB8.out.mono h1.size)
            exact h2.trans (T9'.out.below (fun i hi => by rw [show i = bt from hi]; exact HBTB.out) h2.size))
          have a1 : w9.cell? ⟨bt, 1, none⟩ = some (.pointer (some ⟨q7, 0, none⟩)) := HA9.out.cell 1
          obtain ⟨s9, hs9⟩ : ∃ s9, s9 = w9.heap.size := ⟨_, rfl⟩
          rw [← hs9] at MO
          clear hs9 d0 d1 HAt8 HA8 S7 S8 HWE HA HROW HB T7 HB8 T9'
          go_upto_region 26 with (first
            | (go_at_call 19; (with_reducible refine MO.out.mono ?_); rintro e w10 ⟨rfl, ⟨d10, x10, s10⟩, t10⟩; have S10 := Lib.hid s10; have T10 := Lib.hid t10; clear s10 t10))
          have HA10 : Hid (At w10 bt 27 (wdC p q7)) := Lib.hid (HA9.out.kept T10.out (fun e => e.2 HK2B.out))
          have HROW10 : Hid (w10.ownsRow w.heap.size 44 4 v 18 (vls V 18)) := Lib.hid (Theirs.own_turned HROW9.out T10.out (fun r e h => h.2 ((HK2.out r).2 (.inr e))))
          have HB10 := Lib.hid (T79.out.trans (mayB_below T10.out T79.out.size))
          have VA2 := Lib.hid (S10.out.values (by omega) HV.out)
          clear a1 MO HA9 HROW9 S9 T79 T10
          go_upto_region 27 with (first
            | (go_at_call 20; (with_reducible refine VA2.out.mono ?_); rintro e w11 ⟨v2, d11, rfl, hrow2, hw11, t11⟩; have HROW2 := Lib.hid hrow2; have HW11 := Lib.hid hw11; have T11 := Lib.hid t11; clear hrow2 hw11 t11))
          have HA11 : Hid (At w11 bt 27 (wdC p q7)) := Lib.hid (HA10.out.kept T11.out (fun e => e.2 HK2B.out))
          have HROW11 : Hid (w11.ownsRow w.heap.size 44 4 v 18 (vls V 18)) := Lib.hid (Theirs.own_turned HROW10.out T11.out (fun r e h => h.2 ((HK2.out r).2 (.inr e))))
          have HB11 := Lib.hid (HB10.out.trans (mayB_below T11.out HB10.out.size))
          have HW11' : Hid (Well True w.heap.size p f7 q7 s9 6 K2 100 5000 10000000 100000 V w11 d11 x10) := Lib.hid (HW11.out.less (fun i e => .inl e))
          obtain ⟨A1, cap1, rfl, R1⟩ := own_readsV HV.out HROW11.out
          obtain ⟨A2, cap2, rfl, R2⟩ := own_readsV HV.out HROW2.out
          have SA := Lib.hid (same8_any R2 R1 (by omega))
          clear R1 R2 HROW2 HW11 HROW10 HA10 HB10 S10 T11 VA2
          go_wp2_with (first
            | (go_at_call 21; (with_reducible refine SA.out.mono ?_); rintro e w12 ⟨rfl, hb12⟩; have HB12 := Lib.hid hb12; clear hb12))
          go_roundw
          case rel =>
            have tb := Turned.of_below HB12.out (Nat.le_refl _) NoBlock
            exact ⟨j + 1, f7, q7, s9, d11, x10, by omega, by go_num, HW11'.out.below HB12.out, HA11.out.kept tb (fun h => h), Theirs.own_turned HROW11.out tb (fun _ _ h => h), HB11.out.trans (HB12.out.mono HB11.out.size)⟩
          case measure => simp [intOf]; omega
        · obtain rfl : j = 3 := by omega
          have FO := Lib.hid (HWE.out.format trivial (by omega) (by omega) (by omega) (by omega))
          have a1 : wr.cell? ⟨bt, 1, none⟩ = some (.pointer (some ⟨q, 0, none⟩)) := HA.out.cell 1
          clear HROW HWE HA
          go_upto_region 33 with (first
            | (go_at_call 12; (with_reducible refine FO.out.mono ?_); rintro e w7 ⟨rfl, ⟨d7, x7, s7⟩, t7⟩; have S7 := Lib.hid s7; have T7 := Lib.hid t7; clear s7 t7))
          have B7 := Lib.hid (HB.out.trans (mayB_below T7.out HB.out.size))
          have VA2 := Lib.hid (S7.out.values (by omega) (fun _ => d40_len))
          clear a1 FO HB S7
          go_upto_region 34 with (first
            | (go_at_call 20; (with_reducible refine VA2.out.mono ?_); rintro e w8 ⟨v2, d8, rfl, hrow2, hw8, t8⟩; have HROW2 := Lib.hid hrow2; have T8 := Lib.hid t8; clear hrow2 hw8 t8))
          have B8 := Lib.hid (B7.out.trans (mayB_below T8.out B7.out.size))
          obtain ⟨A2, cap2, rfl, R2⟩ := own_readsV (V := fun _ => d40) (fun _ => d40_len) HROW2.out
          have HR2 := Lib.hid R2
          have NW : Hid (Calls Tryz.prog 15 #[.int .i64 18] w8 fun e w' => ∃ v, e = .returned v ∧ w'.ownsRow w8.heap.size 44 4 v 18 (vls (fun _ => d40) 18) ∧ Below w8.heap.size w8 w') := Lib.hid (new8_any 18 (by omega) w8)
          clear R2 HROW2 VA2 T8
          go_wp2_with (first
            | (go_at_call 15; (with_reducible refine NW.out.mono ?_); rintro e w9 ⟨v3, rfl, hrow3, hb9⟩; have HROW3 := Lib.hid hrow3; have HB9 := Lib.hid hb9; clear hrow3 hb9)
            | (obtain ⟨A3, cap3, rfl, R3⟩ := own_readsV (V := fun _ => d40) (fun _ => d40_len) HROW3.out; go_at_call 21; (with_reducible refine (same8_any (HR2.out.kept HB9.out) R3 (by omega)).mono ?_); rintro e w10 ⟨rfl, hb10⟩; have HB10 := Lib.hid hb10; clear hb10 R3))
          go_ret
          exact ⟨rfl, (B8.out.trans (HB9.out.mono B8.out.size)).trans (HB10.out.mono (Nat.le_trans B8.out.size HB9.out.size))⟩
end Go.Proofs.YtnfgpjfldgocaaaGreat
