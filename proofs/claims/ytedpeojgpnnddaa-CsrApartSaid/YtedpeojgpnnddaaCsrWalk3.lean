/- CsrApart: what is written to one register changes no other one. -/
import Derived.Test.YtedpeojgpnnddaaCsrG
import Derived.Deep.DeepCutAuto
namespace Go.Proofs.Ytedpeojgpnnddaa
open Go.RowKit Bm

theorem fam13_any (n : Int) (w : World) : Calls Try.prog 18 #[.int .i64 n] w fun e w' => e = .returned (.int .i64 (famM n)) ∧ w' = w := by
  by_cases c : n = 256 ∨ n = 768 ∨ n = 260 ∨ n = 772 ∨ n = 324 ∨ n = 836 ∨ n = 2816 ∨ n = 3072 ∨ n = 2944 ∨ n = 3200
  · rcases c with rfl | rfl | rfl | rfl | rfl | rfl | rfl | rfl | rfl | rfl
    all_goals
      go_enter Try.func18, Try.ntmps18
      go_wp2
      go_ret
      exact ⟨rfl, rfl⟩
  · have HE : Hid (famM n = n) := Lib.hid (by unfold famM; rw [if_neg (by omega), if_neg (by omega), if_neg (by omega), if_neg (by omega), if_neg (by omega)])
    simp only [not_or] at c
    obtain ⟨d256, d768, d260, d772, d324, d836, d2816, d3072, d2944, d3200⟩ := c
    go_enter Try.func18, Try.ntmps18
    go_wp2
    go_ret
    exact ⟨by rw [HE.out]; rfl, rfl⟩
theorem mod26 {a : Int} (h0 : 0 ≤ a) (h1 : a ≤ 255) : ∃ k : Nat, k < 26 ∧ a.tmod 26 = (k : Int) ∧ IntKind.i64.wrap a = a := by
  refine ⟨(a % 26).toNat, by omega, ?_, by rw [IntKind.wrap_i64]; omega⟩
  rw [Int.tmod_eq_emod_of_nonneg h0]
  omega
theorem high_num {n : Int} (h : n ∈ allL) (hw : wrIs n 3 = false) : 3072 ≤ n := by
  have : ∀ m ∈ allL, wrIs m 3 = false → 3072 ≤ m := by decide
  exact this n h hw
set_option maxHeartbeats 4000000 in
theorem csrApart_walk (f : FileM) (a1 : Int) (b1 : (Lit.int .u8 a1).wf = true) (a2 : Int) (b2 : (Lit.int .u32 a2).wf = true) (w : World) :
    Calls Try.prog 5 #[.agg (flC f).toArray, .int .u8 a1, .int .u32 a2] w fun e w' => e = .returned (.bool true) ∧ Below w.heap.size w w' := by
  have be := bounds_u8 b1
  have bf := bounds_u32 b2
  obtain ⟨v, rfl⟩ := U_of bf.1 (by omega)
  obtain ⟨k, hk, ht, hw⟩ := mod26 be.1 be.2
  obtain ⟨n, hn⟩ : ∃ n, n = nm allL k := ⟨_, rfl⟩
  have hm : n ∈ allL := by rw [hn]; exact all_nth k hk
  have hat := all_at k hk
  rw [← hn] at hat
  have HAT := Lib.hid hat
  have k0 : (0 : Int) ≤ (k : Int) := by omega
  have k1 : (k : Int) < 26 := by omega
  clear b1 b2 be bf hn hk hat
  have HP := Lib.hid (fun W => write13_any f n 3 v W)
  by_cases hi : wrIs n 3 = true
  · have hx : wrM f n 3 v = wrF f n v := by unfold wrM; rw [hi]; rfl
    rw [hx, hi] at HP
    have HAP := Lib.hid (fun (m : Int) (h : m ∈ allL) => wr_apart f n m v hm h)
    have HRX : Hid (∀ (m : Int) (W : World), m ∈ allL → Calls Try.prog 11 #[.agg (flC (wrF f n v)).toArray, .int .i64 m, .int .i64 3] W fun e w' => e = .returned (.tuple #[.int .u32 (U (knM (wrF f n v) m)), .bool true]) ∧ Below W.heap.size W w') := Lib.hid (fun m W h => by
      have := read13_any (wrF f n v) m 3 W
      unfold rdM at this
      rw [all_low m h, if_pos rfl] at this
      exact this)
    have HRF : Hid (∀ (m : Int) (W : World), m ∈ allL → Calls Try.prog 11 #[.agg (flC f).toArray, .int .i64 m, .int .i64 3] W fun e w' => e = .returned (.tuple #[.int .u32 (U (knM f m)), .bool true]) ∧ Below W.heap.size W w') := Lib.hid (fun m W h => by
      have := read13_any f m 3 W
      unfold rdM at this
      rw [all_low m h, if_pos rfl] at this
      exact this)
    unfold Apart13 at HAP
    generalize wrF f n v = X at *
    clear hx hi hm
    go_enter Try.func5, Try.ntmps5
    go_upto_region 1 with (fail)
    obtain ⟨W1, hW1⟩ : ∃ W, W = w.alloc (.cells (flC f).toArray 25) := ⟨_, rfl⟩
    have hB := (Below.refl w.heap.size w).alloc (Nat.le_refl _) (.cells (flC f).toArray 25)
    have hA : At W1 w.heap.size 25 (flC f) := by rw [hW1]; exact At.news w 25 (flC f)
    rw [← hW1] at hB
    try rw [← hW1]
    have LW1 := Lib.hid hB
    have A1 := Lib.hid hA
    clear hW1 hB hA
    go_upto_region 4 with (first
      | (go_at_call 10; (with_reducible refine (alive13_any _).mono ?_); rintro e w2 ⟨rfl, hb⟩; have A2 := Lib.hid (A1.out.keep hb); have Lw2 := Lib.hid (LW1.out.trans (hb.mono LW1.out.size)); clear hb)
      | (go_at_call 17; (with_reducible refine (numbers13_any _).mono ?_); rintro e w3 ⟨g, rfl, hn, hb, hg⟩; have N3 := Lib.hid hn; have A3 := Lib.hid (A2.out.keep hb); have Lw3 := Lib.hid (Lw2.out.trans (hb.mono Lw2.out.size)); clear hn hb hg))
    have cn : w3.cell? ⟨g, k, none⟩ = some (.int .i64 n) := (N3.out.cell k).trans HAT.out
    go_upto_region 5 with (fail)
    clear cn
    go_wp2_with (first
      | (refine wpList_ldS (flC f) _ A3.out (by rfl) rfl rfl Try.underlying25 rfl r13fl_size rfl ?_)
      | (go_at_call 13; (with_reducible refine (HP.out _).mono ?_); rintro e w4 ⟨rfl, hb⟩; have A4 := Lib.hid (A3.out.keep hb); have N4 := Lib.hid (N3.out.keep hb); have Lw4 := Lib.hid (Lw3.out.trans (hb.mono Lw3.out.size)); clear hb)
      | (refine wpList_newS 29 [.int .u32 0, .int .u32 0, .int .u32 0, .int .u32 0, .int .u32 0, .int .u32 0, .int .u32 0, .int .u32 0, .int .u32 0, .int .u32 0, .int .u32 0, .int .u32 0, .int .u32 0, .int .u32 0, .int .u32 0, .int .u32 0, .int .u64 0] (flC X) w4 _ _ rfl rfl rfl rfl rfl cfl_size rfl rfl (fl_one _) ?_; intro w5 hA hb; have X5 := Lib.hid hA; have A5 := Lib.hid (A4.out.keep hb); have N5 := Lib.hid (N4.out.keep hb); have Lw5 := Lib.hid (Lw4.out.trans (hb.mono Lw4.out.size)); clear hA hb))
    obtain ⟨x, hx⟩ : ∃ x, x = w4.heap.size := ⟨_, rfl⟩
    obtain ⟨b, hb⟩ : ∃ b, b = w.heap.size := ⟨_, rfl⟩
    rw [← hx] at X5
    rw [← hb] at A5
    simp only [← hx, ← hb]
    clear hx hb
    go_loopw [13, 14, 15, 16, 17, 18, 48] (fun _ _ _ _ _ _ i wr => ∃ j : Nat, j ≤ 26 ∧ i = .int .i64 j ∧ At wr b 25 (flC f) ∧ At wr x 29 (flC X) ∧ At wr g 3 (Is allL) ∧ Below w.heap.size w wr) (fun _ _ _ _ _ _ i _ => 26 - (intOf i).toNat)
    case atStart => exact ⟨0, by omega, rfl, A5.out, X5.out, N5.out, Lw5.out⟩
    case round =>
      obtain ⟨j, hj, rfl, hA, hX, hN, hB⟩ := hrel
      have A6 := Lib.hid hA
      have X6 := Lib.hid hX
      have N6 := Lib.hid hN
      have L6 := Lib.hid hB
      clear hA hX hN hB
      by_cases hlt : j < 26
      · have hat := all_at j hlt
        have hmm := all_nth j hlt
        generalize nm allL j = m at *
        have ap := HAP.out m hmm
        have RX := Lib.hid (fun W => HRX.out m W hmm)
        have RF := Lib.hid (fun W => HRF.out m W hmm)
        have HF1 := Lib.hid (fun W => fam13_any m W)
        have HF2 := Lib.hid (fun W => fam13_any n W)
        have cj : wr.cell? ⟨g, j, none⟩ = some (.int .i64 m) := (N6.out.cell j).trans hat
        have j0 : (0 : Int) ≤ (j : Int) := by omega
        have j1 : (j : Int) < 26 := by omega
        have j2 : wrap64 ((j : Int) + 1) = (j : Int) + 1 := by unfold wrap64; omega
        have J1 : Hid (j + 1 ≤ 26) := Lib.hid hlt
        clear hat hmm hlt hj
        generalize famM m = y at *
        generalize famM n = z at *
        generalize knM X m = r at *
        generalize knM f m = t at *
        by_cases hE : r = t
        · subst hE
          clear ap
          by_cases h1 : n = 771
          · have n1 : (n == 771) = true := by simpa using h1
            clear h1
            by_cases h2 : m = 260
            · have m1 : (m == 260) = true := by simpa using h2
              clear h2
              go_wp2_with (first
                | (refine wpList_ldS (flC f) _ A6.out (by rfl) rfl rfl Try.underlying25 rfl r13fl_size rfl ?_)
                | (go_at_call 11; (with_reducible refine (RF.out _).mono ?_); rintro e w7 ⟨rfl, hb⟩; have A7 := Lib.hid (A6.out.keep hb); have X7 := Lib.hid (X6.out.keep hb); have N7 := Lib.hid (N6.out.keep hb); have Lw7 := Lib.hid (L6.out.trans (hb.mono L6.out.size)); clear hb)
                | (refine wpList_ldS (flC X) _ X7.out (by rfl) rfl rfl Try.underlying29 rfl cfl_size rfl ?_)
                | (go_at_call 11; (with_reducible refine (RX.out _).mono ?_); rintro e w8 ⟨rfl, hb⟩; have A8 := Lib.hid (A7.out.keep hb); have X8 := Lib.hid (X7.out.keep hb); have N8 := Lib.hid (N7.out.keep hb); have Lw8 := Lib.hid (Lw7.out.trans (hb.mono Lw7.out.size)); clear hb)
                | (go_at_call 18; (with_reducible refine (HF1.out _).mono ?_); rintro e w9 ⟨rfl, hq⟩; replace hq := hq.symm; subst hq)
                | (go_at_call 18; (with_reducible refine (HF2.out _).mono ?_); rintro e w9 ⟨rfl, hq⟩; replace hq := hq.symm; subst hq))
              go_round
              case rel => exact ⟨j + 1, J1.out, by go_num, A8.out, X8.out, N8.out, Lw8.out⟩
              case measure => simp [intOf]; omega
            · have m1 : (m == 260) = false := by simpa using h2
              clear h2
              by_cases h3 : m = 324
              · have m2 : (m == 324) = true := by simpa using h3
                clear h3
                go_wp2_with (first
                  | (refine wpList_ldS (flC f) _ A6.out (by rfl) rfl rfl Try.underlying25 rfl r13fl_size rfl ?_)
                  | (go_at_call 11; (with_reducible refine (RF.out _).mono ?_); rintro e w7 ⟨rfl, hb⟩; have A7 := Lib.hid (A6.out.keep hb); have X7 := Lib.hid (X6.out.keep hb); have N7 := Lib.hid (N6.out.keep hb); have Lw7 := Lib.hid (L6.out.trans (hb.mono L6.out.size)); clear hb)
                  | (refine wpList_ldS (flC X) _ X7.out (by rfl) rfl rfl Try.underlying29 rfl cfl_size rfl ?_)
                  | (go_at_call 11; (with_reducible refine (RX.out _).mono ?_); rintro e w8 ⟨rfl, hb⟩; have A8 := Lib.hid (A7.out.keep hb); have X8 := Lib.hid (X7.out.keep hb); have N8 := Lib.hid (N7.out.keep hb); have Lw8 := Lib.hid (Lw7.out.trans (hb.mono Lw7.out.size)); clear hb)
                  | (go_at_call 18; (with_reducible refine (HF1.out _).mono ?_); rintro e w9 ⟨rfl, hq⟩; replace hq := hq.symm; subst hq)
                  | (go_at_call 18; (with_reducible refine (HF2.out _).mono ?_); rintro e w9 ⟨rfl, hq⟩; replace hq := hq.symm; subst hq))
                go_round
                case rel => exact ⟨j + 1, J1.out, by go_num, A8.out, X8.out, N8.out, Lw8.out⟩
                case measure => simp [intOf]; omega
              · have m2 : (m == 324) = false := by simpa using h3
                clear h3
                go_wp2_with (first
                  | (refine wpList_ldS (flC f) _ A6.out (by rfl) rfl rfl Try.underlying25 rfl r13fl_size rfl ?_)
                  | (go_at_call 11; (with_reducible refine (RF.out _).mono ?_); rintro e w7 ⟨rfl, hb⟩; have A7 := Lib.hid (A6.out.keep hb); have X7 := Lib.hid (X6.out.keep hb); have N7 := Lib.hid (N6.out.keep hb); have Lw7 := Lib.hid (L6.out.trans (hb.mono L6.out.size)); clear hb)
                  | (refine wpList_ldS (flC X) _ X7.out (by rfl) rfl rfl Try.underlying29 rfl cfl_size rfl ?_)
                  | (go_at_call 11; (with_reducible refine (RX.out _).mono ?_); rintro e w8 ⟨rfl, hb⟩; have A8 := Lib.hid (A7.out.keep hb); have X8 := Lib.hid (X7.out.keep hb); have N8 := Lib.hid (N7.out.keep hb); have Lw8 := Lib.hid (Lw7.out.trans (hb.mono Lw7.out.size)); clear hb)
                  | (go_at_call 18; (with_reducible refine (HF1.out _).mono ?_); rintro e w9 ⟨rfl, hq⟩; replace hq := hq.symm; subst hq)
                  | (go_at_call 18; (with_reducible refine (HF2.out _).mono ?_); rintro e w9 ⟨rfl, hq⟩; replace hq := hq.symm; subst hq))
                go_round
                case rel => exact ⟨j + 1, J1.out, by go_num, A8.out, X8.out, N8.out, Lw8.out⟩
                case measure => simp [intOf]; omega
          · have n1 : (n == 771) = false := by simpa using h1
            clear h1
            go_wp2_with (first
              | (refine wpList_ldS (flC f) _ A6.out (by rfl) rfl rfl Try.underlying25 rfl r13fl_size rfl ?_)
              | (go_at_call 11; (with_reducible refine (RF.out _).mono ?_); rintro e w7 ⟨rfl, hb⟩; have A7 := Lib.hid (A6.out.keep hb); have X7 := Lib.hid (X6.out.keep hb); have N7 := Lib.hid (N6.out.keep hb); have Lw7 := Lib.hid (L6.out.trans (hb.mono L6.out.size)); clear hb)
              | (refine wpList_ldS (flC X) _ X7.out (by rfl) rfl rfl Try.underlying29 rfl cfl_size rfl ?_)
              | (go_at_call 11; (with_reducible refine (RX.out _).mono ?_); rintro e w8 ⟨rfl, hb⟩; have A8 := Lib.hid (A7.out.keep hb); have X8 := Lib.hid (X7.out.keep hb); have N8 := Lib.hid (N7.out.keep hb); have Lw8 := Lib.hid (Lw7.out.trans (hb.mono Lw7.out.size)); clear hb)
              | (go_at_call 18; (with_reducible refine (HF1.out _).mono ?_); rintro e w9 ⟨rfl, hq⟩; replace hq := hq.symm; subst hq)
              | (go_at_call 18; (with_reducible refine (HF2.out _).mono ?_); rintro e w9 ⟨rfl, hq⟩; replace hq := hq.symm; subst hq))
            go_round
            case rel => exact ⟨j + 1, J1.out, by go_num, A8.out, X8.out, N8.out, Lw8.out⟩
            case measure => simp [intOf]; omega
        · have ne : ¬ U t = U r := fun e => hE (U_inj e).symm
          by_cases hF : y = z
          · subst hF
            clear ap hE
            by_cases h1 : n = 771
            · have n1 : (n == 771) = true := by simpa using h1
              clear h1
              by_cases h2 : m = 260
              · have m1 : (m == 260) = true := by simpa using h2
                clear h2
                go_wp2_with (first
                  | (refine wpList_ldS (flC f) _ A6.out (by rfl) rfl rfl Try.underlying25 rfl r13fl_size rfl ?_)
                  | (go_at_call 11; (with_reducible refine (RF.out _).mono ?_); rintro e w7 ⟨rfl, hb⟩; have A7 := Lib.hid (A6.out.keep hb); have X7 := Lib.hid (X6.out.keep hb); have N7 := Lib.hid (N6.out.keep hb); have Lw7 := Lib.hid (L6.out.trans (hb.mono L6.out.size)); clear hb)
                  | (refine wpList_ldS (flC X) _ X7.out (by rfl) rfl rfl Try.underlying29 rfl cfl_size rfl ?_)
                  | (go_at_call 11; (with_reducible refine (RX.out _).mono ?_); rintro e w8 ⟨rfl, hb⟩; have A8 := Lib.hid (A7.out.keep hb); have X8 := Lib.hid (X7.out.keep hb); have N8 := Lib.hid (N7.out.keep hb); have Lw8 := Lib.hid (Lw7.out.trans (hb.mono Lw7.out.size)); clear hb)
                  | (go_at_call 18; (with_reducible refine (HF1.out _).mono ?_); rintro e w9 ⟨rfl, hq⟩; replace hq := hq.symm; subst hq)
                  | (go_at_call 18; (with_reducible refine (HF2.out _).mono ?_); rintro e w9 ⟨rfl, hq⟩; replace hq := hq.symm; subst hq))
                go_round
                case rel => exact ⟨j + 1, J1.out, by go_num, A8.out, X8.out, N8.out, Lw8.out⟩
                case measure => simp [intOf]; omega
              · have m1 : (m == 260) = false := by simpa using h2
                clear h2
                by_cases h3 : m = 324
                · have m2 : (m == 324) = true := by simpa using h3
                  clear h3
                  go_wp2_with (first
                    | (refine wpList_ldS (flC f) _ A6.out (by rfl) rfl rfl Try.underlying25 rfl r13fl_size rfl ?_)
                    | (go_at_call 11; (with_reducible refine (RF.out _).mono ?_); rintro e w7 ⟨rfl, hb⟩; have A7 := Lib.hid (A6.out.keep hb); have X7 := Lib.hid (X6.out.keep hb); have N7 := Lib.hid (N6.out.keep hb); have Lw7 := Lib.hid (L6.out.trans (hb.mono L6.out.size)); clear hb)
                    | (refine wpList_ldS (flC X) _ X7.out (by rfl) rfl rfl Try.underlying29 rfl cfl_size rfl ?_)
                    | (go_at_call 11; (with_reducible refine (RX.out _).mono ?_); rintro e w8 ⟨rfl, hb⟩; have A8 := Lib.hid (A7.out.keep hb); have X8 := Lib.hid (X7.out.keep hb); have N8 := Lib.hid (N7.out.keep hb); have Lw8 := Lib.hid (Lw7.out.trans (hb.mono Lw7.out.size)); clear hb)
                    | (go_at_call 18; (with_reducible refine (HF1.out _).mono ?_); rintro e w9 ⟨rfl, hq⟩; replace hq := hq.symm; subst hq)
                    | (go_at_call 18; (with_reducible refine (HF2.out _).mono ?_); rintro e w9 ⟨rfl, hq⟩; replace hq := hq.symm; subst hq))
                  go_round
                  case rel => exact ⟨j + 1, J1.out, by go_num, A8.out, X8.out, N8.out, Lw8.out⟩
                  case measure => simp [intOf]; omega
                · have m2 : (m == 324) = false := by simpa using h3
                  clear h3
                  go_wp2_with (first
                    | (refine wpList_ldS (flC f) _ A6.out (by rfl) rfl rfl Try.underlying25 rfl r13fl_size rfl ?_)
                    | (go_at_call 11; (with_reducible refine (RF.out _).mono ?_); rintro e w7 ⟨rfl, hb⟩; have A7 := Lib.hid (A6.out.keep hb); have X7 := Lib.hid (X6.out.keep hb); have N7 := Lib.hid (N6.out.keep hb); have Lw7 := Lib.hid (L6.out.trans (hb.mono L6.out.size)); clear hb)
                    | (refine wpList_ldS (flC X) _ X7.out (by rfl) rfl rfl Try.underlying29 rfl cfl_size rfl ?_)
                    | (go_at_call 11; (with_reducible refine (RX.out _).mono ?_); rintro e w8 ⟨rfl, hb⟩; have A8 := Lib.hid (A7.out.keep hb); have X8 := Lib.hid (X7.out.keep hb); have N8 := Lib.hid (N7.out.keep hb); have Lw8 := Lib.hid (Lw7.out.trans (hb.mono Lw7.out.size)); clear hb)
                    | (go_at_call 18; (with_reducible refine (HF1.out _).mono ?_); rintro e w9 ⟨rfl, hq⟩; replace hq := hq.symm; subst hq)
                    | (go_at_call 18; (with_reducible refine (HF2.out _).mono ?_); rintro e w9 ⟨rfl, hq⟩; replace hq := hq.symm; subst hq))
                  go_round
                  case rel => exact ⟨j + 1, J1.out, by go_num, A8.out, X8.out, N8.out, Lw8.out⟩
                  case measure => simp [intOf]; omega
            · have n1 : (n == 771) = false := by simpa using h1
              clear h1
              go_wp2_with (first
                | (refine wpList_ldS (flC f) _ A6.out (by rfl) rfl rfl Try.underlying25 rfl r13fl_size rfl ?_)
                | (go_at_call 11; (with_reducible refine (RF.out _).mono ?_); rintro e w7 ⟨rfl, hb⟩; have A7 := Lib.hid (A6.out.keep hb); have X7 := Lib.hid (X6.out.keep hb); have N7 := Lib.hid (N6.out.keep hb); have Lw7 := Lib.hid (L6.out.trans (hb.mono L6.out.size)); clear hb)
                | (refine wpList_ldS (flC X) _ X7.out (by rfl) rfl rfl Try.underlying29 rfl cfl_size rfl ?_)
                | (go_at_call 11; (with_reducible refine (RX.out _).mono ?_); rintro e w8 ⟨rfl, hb⟩; have A8 := Lib.hid (A7.out.keep hb); have X8 := Lib.hid (X7.out.keep hb); have N8 := Lib.hid (N7.out.keep hb); have Lw8 := Lib.hid (Lw7.out.trans (hb.mono Lw7.out.size)); clear hb)
                | (go_at_call 18; (with_reducible refine (HF1.out _).mono ?_); rintro e w9 ⟨rfl, hq⟩; replace hq := hq.symm; subst hq)
                | (go_at_call 18; (with_reducible refine (HF2.out _).mono ?_); rintro e w9 ⟨rfl, hq⟩; replace hq := hq.symm; subst hq))
              go_round
              case rel => exact ⟨j + 1, J1.out, by go_num, A8.out, X8.out, N8.out, Lw8.out⟩
              case measure => simp [intOf]; omega
          · have hv : n = 771 ∧ (m = 260 ∨ m = 324) := by
              rcases ap with h | h | h
              · exact absurd h hE
              · exact absurd h hF
              · exact h
            have n1 : (n == 771) = true := by simpa using hv.1
            clear ap hE
            by_cases h2 : m = 260
            · have m1 : (m == 260) = true := by simpa using h2
              clear h2 hv
              go_wp2_with (first
                | (refine wpList_ldS (flC f) _ A6.out (by rfl) rfl rfl Try.underlying25 rfl r13fl_size rfl ?_)
                | (go_at_call 11; (with_reducible refine (RF.out _).mono ?_); rintro e w7 ⟨rfl, hb⟩; have A7 := Lib.hid (A6.out.keep hb); have X7 := Lib.hid (X6.out.keep hb); have N7 := Lib.hid (N6.out.keep hb); have Lw7 := Lib.hid (L6.out.trans (hb.mono L6.out.size)); clear hb)
                | (refine wpList_ldS (flC X) _ X7.out (by rfl) rfl rfl Try.underlying29 rfl cfl_size rfl ?_)
                | (go_at_call 11; (with_reducible refine (RX.out _).mono ?_); rintro e w8 ⟨rfl, hb⟩; have A8 := Lib.hid (A7.out.keep hb); have X8 := Lib.hid (X7.out.keep hb); have N8 := Lib.hid (N7.out.keep hb); have Lw8 := Lib.hid (Lw7.out.trans (hb.mono Lw7.out.size)); clear hb)
                | (go_at_call 18; (with_reducible refine (HF1.out _).mono ?_); rintro e w9 ⟨rfl, hq⟩; replace hq := hq.symm; subst hq)
                | (go_at_call 18; (with_reducible refine (HF2.out _).mono ?_); rintro e w9 ⟨rfl, hq⟩; replace hq := hq.symm; subst hq))
              go_round
              case rel => exact ⟨j + 1, J1.out, by go_num, A8.out, X8.out, N8.out, Lw8.out⟩
              case measure => simp [intOf]; omega
            · have m1 : (m == 260) = false := by simpa using h2
              have m2 : (m == 324) = true := by
                rcases hv.2 with h | h
                · exact absurd h h2
                · simpa using h
              clear h2 hv
              go_wp2_with (first
                | (refine wpList_ldS (flC f) _ A6.out (by rfl) rfl rfl Try.underlying25 rfl r13fl_size rfl ?_)
                | (go_at_call 11; (with_reducible refine (RF.out _).mono ?_); rintro e w7 ⟨rfl, hb⟩; have A7 := Lib.hid (A6.out.keep hb); have X7 := Lib.hid (X6.out.keep hb); have N7 := Lib.hid (N6.out.keep hb); have Lw7 := Lib.hid (L6.out.trans (hb.mono L6.out.size)); clear hb)
                | (refine wpList_ldS (flC X) _ X7.out (by rfl) rfl rfl Try.underlying29 rfl cfl_size rfl ?_)
                | (go_at_call 11; (with_reducible refine (RX.out _).mono ?_); rintro e w8 ⟨rfl, hb⟩; have A8 := Lib.hid (A7.out.keep hb); have X8 := Lib.hid (X7.out.keep hb); have N8 := Lib.hid (N7.out.keep hb); have Lw8 := Lib.hid (Lw7.out.trans (hb.mono Lw7.out.size)); clear hb)
                | (go_at_call 18; (with_reducible refine (HF1.out _).mono ?_); rintro e w9 ⟨rfl, hq⟩; replace hq := hq.symm; subst hq)
                | (go_at_call 18; (with_reducible refine (HF2.out _).mono ?_); rintro e w9 ⟨rfl, hq⟩; replace hq := hq.symm; subst hq))
              go_round
              case rel => exact ⟨j + 1, J1.out, by go_num, A8.out, X8.out, N8.out, Lw8.out⟩
              case measure => simp [intOf]; omega
      · have e26 : (j : Int) = 26 := by omega
        obtain ⟨jj, hjj⟩ : ∃ jj, jj = (j : Int) := ⟨_, rfl⟩
        have nl : ¬ (j : Int) < 26 := by omega
        clear hlt hj e26 hjj
        go_wp2
        go_ret
        exact ⟨rfl, L6.out⟩
  · have hf : wrIs n 3 = false := by simpa using hi
    have hx : wrM f n 3 v = f := by unfold wrM; rw [hf]; rfl
    have hh := high_num hm hf
    rw [hf, hx] at HP
    have e1 : ∀ W, (Op.equalIn 10000 29 (.agg (flC f).toArray) (.agg (flC f).toArray)).run Try.prog W = .ok true W := fun W => by rw [run_eqC]; simp
    clear hi hf hx hm
    go_enter Try.func5, Try.ntmps5
    go_upto_region 1 with (fail)
    obtain ⟨W1, hW1⟩ : ∃ W, W = w.alloc (.cells (flC f).toArray 25) := ⟨_, rfl⟩
    have hB := (Below.refl w.heap.size w).alloc (Nat.le_refl _) (.cells (flC f).toArray 25)
    have hA : At W1 w.heap.size 25 (flC f) := by rw [hW1]; exact At.news w 25 (flC f)
    rw [← hW1] at hB
    try rw [← hW1]
    have LW1 := Lib.hid hB
    have A1 := Lib.hid hA
    clear hW1 hB hA
    go_upto_region 4 with (first
      | (go_at_call 10; (with_reducible refine (alive13_any _).mono ?_); rintro e w2 ⟨rfl, hb⟩; have A2 := Lib.hid (A1.out.keep hb); have Lw2 := Lib.hid (LW1.out.trans (hb.mono LW1.out.size)); clear hb)
      | (go_at_call 17; (with_reducible refine (numbers13_any _).mono ?_); rintro e w3 ⟨g, rfl, hn, hb, hg⟩; have N3 := Lib.hid hn; have A3 := Lib.hid (A2.out.keep hb); have Lw3 := Lib.hid (Lw2.out.trans (hb.mono Lw2.out.size)); clear hn hb hg))
    have cn : w3.cell? ⟨g, k, none⟩ = some (.int .i64 n) := (N3.out.cell k).trans HAT.out
    go_upto_region 5 with (fail)
    clear cn
    go_wp2_with (first
      | (refine wpList_ldS (flC f) _ A3.out (by rfl) rfl rfl Try.underlying25 rfl r13fl_size rfl ?_)
      | (go_at_call 13; (with_reducible refine (HP.out _).mono ?_); rintro e w4 ⟨rfl, hb⟩; have A4 := Lib.hid (A3.out.keep hb); have Lw4 := Lib.hid (Lw3.out.trans (hb.mono Lw3.out.size)); clear hb)
      | (refine wpList_newS 29 [.int .u32 0, .int .u32 0, .int .u32 0, .int .u32 0, .int .u32 0, .int .u32 0, .int .u32 0, .int .u32 0, .int .u32 0, .int .u32 0, .int .u32 0, .int .u32 0, .int .u32 0, .int .u32 0, .int .u32 0, .int .u32 0, .int .u64 0] (flC f) w4 _ _ rfl rfl rfl rfl rfl cfl_size rfl rfl (fl_one _) ?_; intro w5 hA hb; have X5 := Lib.hid hA; have A5 := Lib.hid (A4.out.keep hb); have Lw5 := Lib.hid (Lw4.out.trans (hb.mono Lw4.out.size)); clear hA hb)
      | (refine wpList_ldS (flC f) _ X5.out (by rfl) rfl rfl Try.underlying29 rfl cfl_size rfl ?_)
      | (refine wpList_ldS (flC f) _ A5.out (by rfl) rfl rfl Try.underlying25 rfl r13fl_size rfl ?_))
    go_ret
    exact ⟨by simp, Lw5.out⟩
end Go.Proofs.Ytedpeojgpnnddaa
