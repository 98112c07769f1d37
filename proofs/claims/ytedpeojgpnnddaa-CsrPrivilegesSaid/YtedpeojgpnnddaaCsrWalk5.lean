/- CsrPrivileges: from a lower privilege no more is read, and written, than from a higher one, and the same. -/
import Derived.Test.YtedpeojgpnnddaaCsrV
import Derived.Test.YtedpeojgpnnddaaCsrE
import Derived.Deep.DeepCutAuto
import Derived.Deep.LoopGhost
import Derived.Deep.Light
namespace Go.Proofs.Ytedpeojgpnnddaa
open Go.RowKit Bm

namespace Bm
theorem rd_mono (n : Int) {p q : Int} (h : p ≤ q) (hp : rdIs n p = true) : rdIs n q = true := by
  unfold rdIs at *
  simp only [Bool.and_eq_true, decide_eq_true_eq] at *
  exact ⟨hp.1, by omega⟩
theorem rdM_mono (f : FileM) (n : Int) {p q : Int} (h : p ≤ q) (hp : rdIs n p = true) : rdM f n q = rdM f n p := by
  unfold rdM
  rw [hp, rd_mono n h hp]
theorem wr_rd (n : Int) {p : Int} (hp : wrIs n p = true) : rdIs n p = true := by
  unfold wrIs at hp
  simp only [Bool.and_eq_true] at hp
  exact hp.1
theorem wr_mono (n : Int) {p q : Int} (h : p ≤ q) (hp : wrIs n p = true) : wrIs n q = true := by
  have := rd_mono n h (wr_rd n hp)
  unfold wrIs at *
  simp only [Bool.and_eq_true] at *
  exact ⟨this, hp.2⟩
theorem wrM_mono (f : FileM) (n : Int) {p q : Int} (v : BitVec 32) (h : p ≤ q) (hp : wrIs n p = true) : wrM f n q v = wrM f n p v := by
  unfold wrM
  rw [hp, wr_mono n h hp]
end Bm
set_option maxRecDepth 100000 in
set_option maxHeartbeats 4000000 in
theorem csrPrivileges_walk (f : FileM) (n : Int) (_ : (Lit.int .i64 n).wf = true) (a2 : Int) (b2 : (Lit.int .u32 a2).wf = true) (w : World) :
    Calls Try.prog 7 #[.agg (flC f).toArray, .int .i64 n, .int .u32 a2] w fun e w' => e = .returned (.bool true) ∧ Below w.heap.size w w' := by
  have bf := bounds_u32 b2
  obtain ⟨v, rfl⟩ := U_of bf.1 (by omega)
  have HR := Lib.hid (fun (p : Int) W => read13_any f n p W)
  have HW := Lib.hid (fun (p : Int) W => write13_any f n p v W)
  clear b2 bf
  go_enter Try.func7, Try.ntmps7
  go_upto_region 1 with (fail)
  obtain ⟨W1, hW1⟩ : ∃ W, W = w.alloc (.cells (flC f).toArray 25) := ⟨_, rfl⟩
  have hB := (Below.refl w.heap.size w).alloc (Nat.le_refl _) (.cells (flC f).toArray 25)
  have hA : At W1 w.heap.size 25 (flC f) := by rw [hW1]; exact At.news w 25 (flC f)
  rw [← hW1] at hB
  try rw [← hW1]
  have LW1 := Lib.hid hB
  have A1 := Lib.hid hA
  clear hW1 hB hA
  go_wp2_with (go_at_call 10; (with_reducible refine (alive13_any _).mono ?_); rintro e w2 ⟨rfl, hb⟩; have A2 := Lib.hid (A1.out.keep hb); have Lw2 := Lib.hid (LW1.out.trans (hb.mono LW1.out.size)); clear hb)
  obtain ⟨b, hb⟩ : ∃ b, b = w.heap.size := ⟨_, rfl⟩
  rw [← hb] at A2
  simp only [← hb]
  clear hb A1
  go_loopg [19] 4 (fun g i wr => ∃ j : Nat, j ≤ 4 ∧ g = 4 - j ∧ i = .int .i64 j ∧ At wr b 25 (flC f) ∧ Below w.heap.size w wr)
  case atStart => exact ⟨0, by omega, rfl, rfl, A2.out, Lw2.out⟩
  case round =>
    obtain ⟨j, hj, rfl, rfl, hA, hB⟩ := hrel
    have A3 := Lib.hid hA
    have L3 := Lib.hid hB
    clear hA hB A2 Lw2
    by_cases hlt : j < 4
    · have hlz : (j : Int) < 4 := by omega
      have j0 : (0 : Int) ≤ (j : Int) := by omega
      have J4 : Hid (j < 4) := Lib.hid hlt
      have jw : wrap64 ((j : Int) + 1) = (j : Int) + 1 := by unfold wrap64; omega
      clear hj
      by_cases hw : wrIs n j = true
      · have hr : rdIs n j = true := wr_rd n hw
        have RJ : Hid (∀ W, Calls Try.prog 11 #[.agg (flC f).toArray, .int .i64 n, .int .i64 j] W fun e w' => e = .returned (.tuple #[.int .u32 (U (rdM f n j)), .bool true]) ∧ Below W.heap.size W w') := Lib.hid (fun W => by have := HR.out j W; rw [hr] at this; exact this)
        have WJ : Hid (∀ W, Calls Try.prog 13 #[.agg (flC f).toArray, .int .i64 n, .int .i64 j, .int .u32 (U v)] W fun e w' => e = .returned (.tuple #[.agg (flC (wrM f n j v)).toArray, .bool true]) ∧ Below W.heap.size W w') := Lib.hid (fun W => by have := HW.out j W; rw [hw] at this; exact this)
        have RG : Hid (∀ (h : Nat), j ≤ h → ∀ W, Calls Try.prog 11 #[.agg (flC f).toArray, .int .i64 n, .int .i64 h] W fun e w' => e = .returned (.tuple #[.int .u32 (U (rdM f n j)), .bool true]) ∧ Below W.heap.size W w') := Lib.hid (fun h hh W => by
          have := HR.out h W
          rw [rdM_mono f n (show (j : Int) ≤ (h : Int) by omega) hr, rd_mono n (show (j : Int) ≤ (h : Int) by omega) hr] at this
          exact this)
        have WG : Hid (∀ (h : Nat), j ≤ h → ∀ W, Calls Try.prog 13 #[.agg (flC f).toArray, .int .i64 n, .int .i64 h, .int .u32 (U v)] W fun e w' => e = .returned (.tuple #[.agg (flC (wrM f n j v)).toArray, .bool true]) ∧ Below W.heap.size W w') := Lib.hid (fun h hh W => by
          have := HW.out h W
          rw [wrM_mono f n v (show (j : Int) ≤ (h : Int) by omega) hw, wr_mono n (show (j : Int) ≤ (h : Int) by omega) hw] at this
          exact this)
        generalize rdM f n j = r at *
        generalize wrM f n j v = X at *
        have e1 : ∀ W, (Op.equalIn 10000 29 (.agg (flC X).toArray) (.agg (flC X).toArray)).run Try.prog W = .ok true W := fun W => by rw [run_eqC]; simp
        clear hr hw
        go_upto_region 8 with (first
          | (refine wpList_ldS (flC f) _ A3.out (by rfl) rfl rfl Try.underlying25 rfl r13fl_size rfl ?_)
          | (go_at_call 11; (with_reducible refine (RJ.out _).mono ?_); rintro e w4 ⟨rfl, hb⟩; have A4 := Lib.hid (A3.out.keep hb); have Lw4 := Lib.hid (L3.out.trans (hb.mono L3.out.size)); clear hb)
          | (refine wpList_ldS (flC f) _ A4.out (by rfl) rfl rfl Try.underlying25 rfl r13fl_size rfl ?_)
          | (go_at_call 13; (with_reducible refine (WJ.out _).mono ?_); rintro e w5 ⟨rfl, hb⟩; have A5 := Lib.hid (A4.out.keep hb); have Lw5 := Lib.hid (Lw4.out.trans (hb.mono Lw4.out.size)); clear hb)
          | (refine wpList_newS 29 [.int .u32 0, .int .u32 0, .int .u32 0, .int .u32 0, .int .u32 0, .int .u32 0, .int .u32 0, .int .u32 0, .int .u32 0, .int .u32 0, .int .u32 0, .int .u32 0, .int .u32 0, .int .u32 0, .int .u32 0, .int .u32 0, .int .u64 0] (flC X) w5 _ _ rfl rfl rfl rfl rfl cfl_size rfl rfl (fl_one _) ?_; intro w6 hA hb; have X6 := Lib.hid hA; have A6 := Lib.hid (A5.out.keep hb); have Lw6 := Lib.hid (Lw5.out.trans (hb.mono Lw5.out.size)); clear hA hb))
        obtain ⟨x, hx⟩ : ∃ x, x = w5.heap.size := ⟨_, rfl⟩
        rw [← hx] at X6
        simp only [← hx]
        clear hx
        go_wp2
        go_loopg [12] (4 - j) (fun g i wr' => ∃ h : Nat, j ≤ h ∧ h ≤ 4 ∧ g = 4 - h ∧ i = .int .i64 h ∧ At wr' b 25 (flC f) ∧ At wr' x 29 (flC X) ∧ Below w.heap.size w wr')
        case atStart => exact ⟨j, by omega, by have := J4.out; omega, by have := J4.out; omega, rfl, A6.out, X6.out, Lw6.out⟩
        case round =>
          obtain ⟨h, hjh, hh, rfl, rfl, hA, hX, hB⟩ := hrel
          have A7 := Lib.hid hA
          have X7 := Lib.hid hX
          have L7 := Lib.hid hB
          clear hA hX hB A6 X6 Lw6
          by_cases hlt2 : h < 4
          · have hlz2 : (h : Int) < 4 := by omega
            have h0 : (0 : Int) ≤ (h : Int) := by omega
            have hw : wrap64 ((h : Int) + 1) = (h : Int) + 1 := by unfold wrap64; omega
            have RH := Lib.hid (fun W => RG.out h hjh W)
            have WH := Lib.hid (fun W => WG.out h hjh W)
            have JH : Hid (j ≤ h + 1) := Lib.hid (by omega)
            have H4 : Hid (h + 1 ≤ 4) := Lib.hid hlt2
            clear hlt2 hh hjh hlz
            go_wp2_with (first
              | (refine wpList_ldS (flC f) _ A7.out (by rfl) rfl rfl Try.underlying25 rfl r13fl_size rfl ?_)
              | (go_at_call 11; (with_reducible refine (RH.out _).mono ?_); rintro e w8 ⟨rfl, hb⟩; have A8 := Lib.hid (A7.out.keep hb); have X8 := Lib.hid (X7.out.keep hb); have Lw8 := Lib.hid (L7.out.trans (hb.mono L7.out.size)); clear hb)
              | (refine wpList_ldS (flC f) _ A8.out (by rfl) rfl rfl Try.underlying25 rfl r13fl_size rfl ?_)
              | (go_at_call 13; (with_reducible refine (WH.out _).mono ?_); rintro e w9 ⟨rfl, hb⟩; have A9 := Lib.hid (A8.out.keep hb); have X9 := Lib.hid (X8.out.keep hb); have Lw9 := Lib.hid (Lw8.out.trans (hb.mono Lw8.out.size)); clear hb)
              | (refine wpList_newS 29 [.int .u32 0, .int .u32 0, .int .u32 0, .int .u32 0, .int .u32 0, .int .u32 0, .int .u32 0, .int .u32 0, .int .u32 0, .int .u32 0, .int .u32 0, .int .u32 0, .int .u32 0, .int .u32 0, .int .u32 0, .int .u32 0, .int .u64 0] (flC X) w9 _ _ rfl rfl rfl rfl rfl cfl_size rfl rfl (fl_one _) ?_; intro v1 hA hb; have Y1 := Lib.hid hA; have B1 := Lib.hid (A9.out.keep hb); have X1 := Lib.hid (X9.out.keep hb); have Lv1 := Lib.hid (Lw9.out.trans (hb.mono Lw9.out.size)); clear hA hb)
              | (refine wpList_ldS (flC X) _ X1.out (by rfl) rfl rfl Try.underlying29 rfl cfl_size rfl ?_)
              | (refine wpList_ldS (flC X) _ Y1.out (by rfl) rfl rfl Try.underlying29 rfl cfl_size rfl ?_)
              | (refine wpList_ldS (flC f) _ B1.out (by rfl) rfl rfl Try.underlying25 rfl r13fl_size rfl ?_))
            go_roundg (4 - (h + 1))
            case measure => go_light; have := H4.out; omega
            case rel => go_light; exact ⟨h + 1, JH.out, H4.out, rfl, by simp, B1.out, X1.out, Lv1.out⟩
          · have hn : ¬ (h : Int) < 4 := by omega
            clear hlt2 hh hjh hlz
            go_wp2
            go_roundg (4 - (j + 1))
            case measure => go_light; have := J4.out; omega
            case rel => go_light; exact ⟨j + 1, J4.out, rfl, by simp, A7.out, L7.out⟩
      · have hwf : wrIs n j = false := by simpa using hw
        have hxf : wrM f n j v = f := by unfold wrM; rw [hwf]; rfl
        have WJ : Hid (∀ W, Calls Try.prog 13 #[.agg (flC f).toArray, .int .i64 n, .int .i64 j, .int .u32 (U v)] W fun e w' => e = .returned (.tuple #[.agg (flC f).toArray, .bool false]) ∧ Below W.heap.size W w') := Lib.hid (fun W => by have := HW.out j W; rw [hxf, hwf] at this; exact this)
        have e1 : ∀ W, (Op.equalIn 10000 29 (.agg (flC f).toArray) (.agg (flC f).toArray)).run Try.prog W = .ok true W := fun W => by rw [run_eqC]; simp
        clear hw hwf hxf
        by_cases hr : rdIs n j = true
        · have RJ : Hid (∀ W, Calls Try.prog 11 #[.agg (flC f).toArray, .int .i64 n, .int .i64 j] W fun e w' => e = .returned (.tuple #[.int .u32 (U (rdM f n j)), .bool true]) ∧ Below W.heap.size W w') := Lib.hid (fun W => by have := HR.out j W; rw [hr] at this; exact this)
          have RG : Hid (∀ (h : Nat), j ≤ h → ∀ W, Calls Try.prog 11 #[.agg (flC f).toArray, .int .i64 n, .int .i64 h] W fun e w' => e = .returned (.tuple #[.int .u32 (U (rdM f n j)), .bool true]) ∧ Below W.heap.size W w') := Lib.hid (fun h hh W => by
            have := HR.out h W
            rw [rdM_mono f n (show (j : Int) ≤ (h : Int) by omega) hr, rd_mono n (show (j : Int) ≤ (h : Int) by omega) hr] at this
            exact this)
          generalize rdM f n j = r at *
          clear hr
          go_upto_region 8 with (first
            | (refine wpList_ldS (flC f) _ A3.out (by rfl) rfl rfl Try.underlying25 rfl r13fl_size rfl ?_)
            | (go_at_call 11; (with_reducible refine (RJ.out _).mono ?_); rintro e w4 ⟨rfl, hb⟩; have A4 := Lib.hid (A3.out.keep hb); have Lw4 := Lib.hid (L3.out.trans (hb.mono L3.out.size)); clear hb)
            | (refine wpList_ldS (flC f) _ A4.out (by rfl) rfl rfl Try.underlying25 rfl r13fl_size rfl ?_)
            | (go_at_call 13; (with_reducible refine (WJ.out _).mono ?_); rintro e w5 ⟨rfl, hb⟩; have A5 := Lib.hid (A4.out.keep hb); have Lw5 := Lib.hid (Lw4.out.trans (hb.mono Lw4.out.size)); clear hb)
            | (refine wpList_newS 29 [.int .u32 0, .int .u32 0, .int .u32 0, .int .u32 0, .int .u32 0, .int .u32 0, .int .u32 0, .int .u32 0, .int .u32 0, .int .u32 0, .int .u32 0, .int .u32 0, .int .u32 0, .int .u32 0, .int .u32 0, .int .u32 0, .int .u64 0] (flC f) w5 _ _ rfl rfl rfl rfl rfl cfl_size rfl rfl (fl_one _) ?_; intro w6 hA hb; have X6 := Lib.hid hA; have A6 := Lib.hid (A5.out.keep hb); have Lw6 := Lib.hid (Lw5.out.trans (hb.mono Lw5.out.size)); clear hA hb))
          obtain ⟨x, hx⟩ : ∃ x, x = w5.heap.size := ⟨_, rfl⟩
          rw [← hx] at X6
          simp only [← hx]
          clear hx
          go_wp2
          go_loopg [12] (4 - j) (fun g i wr' => ∃ h : Nat, j ≤ h ∧ h ≤ 4 ∧ g = 4 - h ∧ i = .int .i64 h ∧ At wr' b 25 (flC f) ∧ At wr' x 29 (flC f) ∧ Below w.heap.size w wr')
          case atStart => exact ⟨j, by omega, by have := J4.out; omega, by have := J4.out; omega, rfl, A6.out, X6.out, Lw6.out⟩
          case round =>
            obtain ⟨h, hjh, hh, rfl, rfl, hA, hX, hB⟩ := hrel
            have A7 := Lib.hid hA
            have X7 := Lib.hid hX
            have L7 := Lib.hid hB
            clear hA hX hB A6 X6 Lw6
            by_cases hlt2 : h < 4
            · have hlz2 : (h : Int) < 4 := by omega
              have h0 : (0 : Int) ≤ (h : Int) := by omega
              have hw : wrap64 ((h : Int) + 1) = (h : Int) + 1 := by unfold wrap64; omega
              have RH := Lib.hid (fun W => RG.out h hjh W)
              have WH := Lib.hid (fun W => HW.out h W)
              obtain ⟨Y, hY⟩ : ∃ Y, Y = wrM f n h v := ⟨_, rfl⟩
              obtain ⟨t, ht⟩ : ∃ t, t = wrIs n h := ⟨_, rfl⟩
              rw [← hY, ← ht] at WH
              clear hY ht
              have JH : Hid (j ≤ h + 1) := Lib.hid (by omega)
              have H4 : Hid (h + 1 ≤ 4) := Lib.hid hlt2
              clear hlt2 hh hjh hlz
              go_wp2_with (first
                | (refine wpList_ldS (flC f) _ A7.out (by rfl) rfl rfl Try.underlying25 rfl r13fl_size rfl ?_)
                | (go_at_call 11; (with_reducible refine (RH.out _).mono ?_); rintro e w8 ⟨rfl, hb⟩; have A8 := Lib.hid (A7.out.keep hb); have X8 := Lib.hid (X7.out.keep hb); have Lw8 := Lib.hid (L7.out.trans (hb.mono L7.out.size)); clear hb)
                | (refine wpList_ldS (flC f) _ A8.out (by rfl) rfl rfl Try.underlying25 rfl r13fl_size rfl ?_)
                | (go_at_call 13; (with_reducible refine (WH.out _).mono ?_); rintro e w9 ⟨rfl, hb⟩; have A9 := Lib.hid (A8.out.keep hb); have X9 := Lib.hid (X8.out.keep hb); have Lw9 := Lib.hid (Lw8.out.trans (hb.mono Lw8.out.size)); clear hb)
                | (refine wpList_newS 29 [.int .u32 0, .int .u32 0, .int .u32 0, .int .u32 0, .int .u32 0, .int .u32 0, .int .u32 0, .int .u32 0, .int .u32 0, .int .u32 0, .int .u32 0, .int .u32 0, .int .u32 0, .int .u32 0, .int .u32 0, .int .u32 0, .int .u64 0] (flC Y) w9 _ _ rfl rfl rfl rfl rfl cfl_size rfl rfl (fl_one _) ?_; intro v1 hA hb; have Y1 := Lib.hid hA; have B1 := Lib.hid (A9.out.keep hb); have X1 := Lib.hid (X9.out.keep hb); have Lv1 := Lib.hid (Lw9.out.trans (hb.mono Lw9.out.size)); clear hA hb)
                | (refine wpList_ldS (flC f) _ X1.out (by rfl) rfl rfl Try.underlying29 rfl cfl_size rfl ?_)
                | (refine wpList_ldS (flC Y) _ Y1.out (by rfl) rfl rfl Try.underlying29 rfl cfl_size rfl ?_)
                | (refine wpList_ldS (flC f) _ B1.out (by rfl) rfl rfl Try.underlying25 rfl r13fl_size rfl ?_))
              go_roundg (4 - (h + 1))
              case measure => go_light; have := H4.out; omega
              case rel => go_light; exact ⟨h + 1, JH.out, H4.out, rfl, by simp, B1.out, X1.out, Lv1.out⟩
            · have hn : ¬ (h : Int) < 4 := by omega
              clear hlt2 hh hjh hlz
              go_wp2
              go_roundg (4 - (j + 1))
              case measure => go_light; have := J4.out; omega
              case rel => go_light; exact ⟨j + 1, J4.out, rfl, by simp, A7.out, L7.out⟩
        · have hrf : rdIs n j = false := by simpa using hr
          have RJ : Hid (∀ W, Calls Try.prog 11 #[.agg (flC f).toArray, .int .i64 n, .int .i64 j] W fun e w' => e = .returned (.tuple #[.int .u32 (U (rdM f n j)), .bool false]) ∧ Below W.heap.size W w') := Lib.hid (fun W => by have := HR.out j W; rw [hrf] at this; exact this)
          generalize rdM f n j = r at *
          clear hr hrf
          go_upto_region 8 with (first
            | (refine wpList_ldS (flC f) _ A3.out (by rfl) rfl rfl Try.underlying25 rfl r13fl_size rfl ?_)
            | (go_at_call 11; (with_reducible refine (RJ.out _).mono ?_); rintro e w4 ⟨rfl, hb⟩; have A4 := Lib.hid (A3.out.keep hb); have Lw4 := Lib.hid (L3.out.trans (hb.mono L3.out.size)); clear hb)
            | (refine wpList_ldS (flC f) _ A4.out (by rfl) rfl rfl Try.underlying25 rfl r13fl_size rfl ?_)
            | (go_at_call 13; (with_reducible refine (WJ.out _).mono ?_); rintro e w5 ⟨rfl, hb⟩; have A5 := Lib.hid (A4.out.keep hb); have Lw5 := Lib.hid (Lw4.out.trans (hb.mono Lw4.out.size)); clear hb)
            | (refine wpList_newS 29 [.int .u32 0, .int .u32 0, .int .u32 0, .int .u32 0, .int .u32 0, .int .u32 0, .int .u32 0, .int .u32 0, .int .u32 0, .int .u32 0, .int .u32 0, .int .u32 0, .int .u32 0, .int .u32 0, .int .u32 0, .int .u32 0, .int .u64 0] (flC f) w5 _ _ rfl rfl rfl rfl rfl cfl_size rfl rfl (fl_one _) ?_; intro w6 hA hb; have X6 := Lib.hid hA; have A6 := Lib.hid (A5.out.keep hb); have Lw6 := Lib.hid (Lw5.out.trans (hb.mono Lw5.out.size)); clear hA hb))
          obtain ⟨x, hx⟩ : ∃ x, x = w5.heap.size := ⟨_, rfl⟩
          rw [← hx] at X6
          simp only [← hx]
          clear hx
          go_wp2
          go_loopg [12] (4 - j) (fun g i wr' => ∃ h : Nat, j ≤ h ∧ h ≤ 4 ∧ g = 4 - h ∧ i = .int .i64 h ∧ At wr' b 25 (flC f) ∧ At wr' x 29 (flC f) ∧ Below w.heap.size w wr')
          case atStart => exact ⟨j, by omega, by have := J4.out; omega, by have := J4.out; omega, rfl, A6.out, X6.out, Lw6.out⟩
          case round =>
            obtain ⟨h, hjh, hh, rfl, rfl, hA, hX, hB⟩ := hrel
            have A7 := Lib.hid hA
            have X7 := Lib.hid hX
            have L7 := Lib.hid hB
            clear hA hX hB A6 X6 Lw6
            by_cases hlt2 : h < 4
            · have hlz2 : (h : Int) < 4 := by omega
              have h0 : (0 : Int) ≤ (h : Int) := by omega
              have hw : wrap64 ((h : Int) + 1) = (h : Int) + 1 := by unfold wrap64; omega
              have RH := Lib.hid (fun W => HR.out h W)
              have WH := Lib.hid (fun W => HW.out h W)
              obtain ⟨r2, hr2⟩ : ∃ r2, r2 = rdM f n h := ⟨_, rfl⟩
              obtain ⟨t2, ht2⟩ : ∃ t2, t2 = rdIs n h := ⟨_, rfl⟩
              rw [← hr2, ← ht2] at RH
              clear hr2 ht2
              obtain ⟨Y, hY⟩ : ∃ Y, Y = wrM f n h v := ⟨_, rfl⟩
              obtain ⟨t, ht⟩ : ∃ t, t = wrIs n h := ⟨_, rfl⟩
              rw [← hY, ← ht] at WH
              clear hY ht
              have JH : Hid (j ≤ h + 1) := Lib.hid (by omega)
              have H4 : Hid (h + 1 ≤ 4) := Lib.hid hlt2
              clear hlt2 hh hjh hlz
              go_wp2_with (first
                | (refine wpList_ldS (flC f) _ A7.out (by rfl) rfl rfl Try.underlying25 rfl r13fl_size rfl ?_)
                | (go_at_call 11; (with_reducible refine (RH.out _).mono ?_); rintro e w8 ⟨rfl, hb⟩; have A8 := Lib.hid (A7.out.keep hb); have X8 := Lib.hid (X7.out.keep hb); have Lw8 := Lib.hid (L7.out.trans (hb.mono L7.out.size)); clear hb)
                | (refine wpList_ldS (flC f) _ A8.out (by rfl) rfl rfl Try.underlying25 rfl r13fl_size rfl ?_)
                | (go_at_call 13; (with_reducible refine (WH.out _).mono ?_); rintro e w9 ⟨rfl, hb⟩; have A9 := Lib.hid (A8.out.keep hb); have X9 := Lib.hid (X8.out.keep hb); have Lw9 := Lib.hid (Lw8.out.trans (hb.mono Lw8.out.size)); clear hb)
                | (refine wpList_newS 29 [.int .u32 0, .int .u32 0, .int .u32 0, .int .u32 0, .int .u32 0, .int .u32 0, .int .u32 0, .int .u32 0, .int .u32 0, .int .u32 0, .int .u32 0, .int .u32 0, .int .u32 0, .int .u32 0, .int .u32 0, .int .u32 0, .int .u64 0] (flC Y) w9 _ _ rfl rfl rfl rfl rfl cfl_size rfl rfl (fl_one _) ?_; intro v1 hA hb; have Y1 := Lib.hid hA; have B1 := Lib.hid (A9.out.keep hb); have X1 := Lib.hid (X9.out.keep hb); have Lv1 := Lib.hid (Lw9.out.trans (hb.mono Lw9.out.size)); clear hA hb)
                | (refine wpList_ldS (flC f) _ X1.out (by rfl) rfl rfl Try.underlying29 rfl cfl_size rfl ?_)
                | (refine wpList_ldS (flC Y) _ Y1.out (by rfl) rfl rfl Try.underlying29 rfl cfl_size rfl ?_)
                | (refine wpList_ldS (flC f) _ B1.out (by rfl) rfl rfl Try.underlying25 rfl r13fl_size rfl ?_))
              go_roundg (4 - (h + 1))
              case measure => go_light; have := H4.out; omega
              case rel => go_light; exact ⟨h + 1, JH.out, H4.out, rfl, by simp, B1.out, X1.out, Lv1.out⟩
            · have hn : ¬ (h : Int) < 4 := by omega
              clear hlt2 hh hjh hlz
              go_wp2
              go_roundg (4 - (j + 1))
              case measure => go_light; have := J4.out; omega
              case rel => go_light; exact ⟨j + 1, J4.out, rfl, by simp, A7.out, L7.out⟩
    · have hn : ¬ (j : Int) < 4 := by omega
      clear hlt hj
      go_wp2
      go_ret
      exact ⟨rfl, L3.out⟩
end Go.Proofs.Ytedpeojgpnnddaa
