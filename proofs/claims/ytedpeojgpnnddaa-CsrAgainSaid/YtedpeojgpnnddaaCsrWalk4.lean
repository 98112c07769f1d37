/- CsrAgain: what is read behind a write, and written again, changes nothing. -/
import Derived.Test.YtedpeojgpnnddaaCsrG
import Derived.Deep.DeepCutAuto
namespace Go.Proofs.Ytedpeojgpnnddaa
open Go.RowKit Bm

theorem mod26 {a : Int} (h0 : 0 ≤ a) (h1 : a ≤ 255) : ∃ k : Nat, k < 26 ∧ a.tmod 26 = (k : Int) ∧ IntKind.i64.wrap a = a := by
  refine ⟨(a % 26).toNat, by omega, ?_, by rw [IntKind.wrap_i64]; omega⟩
  rw [Int.tmod_eq_emod_of_nonneg h0]
  omega
set_option maxHeartbeats 4000000 in
theorem csrAgain_walk (f : FileM) (a1 : Int) (b1 : (Lit.int .u8 a1).wf = true) (a2 : Int) (b2 : (Lit.int .u32 a2).wf = true) (w : World) :
    Calls Try.prog 6 #[.agg (flC f).toArray, .int .u8 a1, .int .u32 a2] w fun e w' => e = .returned (.bool true) ∧ Below w.heap.size w w' := by
  have be := bounds_u8 b1
  have bf := bounds_u32 b2
  obtain ⟨v, rfl⟩ := U_of bf.1 (by omega)
  obtain ⟨k, hk, ht, hw⟩ := mod26 be.1 be.2
  obtain ⟨n, hn⟩ : ∃ n, n = nm allL k := ⟨_, rfl⟩
  have hm : n ∈ allL := by rw [hn]; exact all_nth k hk
  have hat := all_at k hk
  rw [← hn] at hat
  have HAT := Lib.hid hat
  have k0 : (0 : Int) ≤ (k : Int) := by omega
  have k1 : (k : Int) < 26 := by omega
  clear b1 b2 be bf hn hk hat
  have HP := Lib.hid (fun W => write13_any f n 3 v W)
  by_cases hi : wrIs n 3 = true
  · have hx : wrM f n 3 v = wrF f n v := by unfold wrM; rw [hi]; rfl
    rw [hx, hi] at HP
    have HR := Lib.hid (fun W => read13_any (wrF f n v) n 3 W)
    have hr : rdM (wrF f n v) n 3 = knM (wrF f n v) n := by unfold rdM; rw [all_low n hm]; rfl
    rw [hr, all_low n hm] at HR
    have HQ := Lib.hid (fun W => write13_any (wrF f n v) n 3 (knM (wrF f n v) n) W)
    have hy : wrM (wrF f n v) n 3 (knM (wrF f n v) n) = wrF f n v := by
      unfold wrM
      rw [hi, if_pos rfl]
      exact wr_again f n v (all_num n hm)
    rw [hy, hi] at HQ
    generalize knM (wrF f n v) n = r at *
    generalize wrF f n v = X at *
    have e1 : ∀ W, (Op.equalIn 10000 29 (.agg (flC X).toArray) (.agg (flC X).toArray)).run Try.prog W = .ok true W := fun W => by rw [run_eqC]; simp
    clear hx hi hr hy hm
    go_enter Try.func6, Try.ntmps6
    go_upto_region 1 with (fail)
    obtain ⟨W1, hW1⟩ : ∃ W, W = w.alloc (.cells (flC f).toArray 25) := ⟨_, rfl⟩
    have hB := (Below.refl w.heap.size w).alloc (Nat.le_refl _) (.cells (flC f).toArray 25)
    have hA : At W1 w.heap.size 25 (flC f) := by rw [hW1]; exact At.news w 25 (flC f)
    rw [← hW1] at hB
    try rw [← hW1]
    have LW1 := Lib.hid hB
    have A1 := Lib.hid hA
    clear hW1 hB hA
    go_upto_region 4 with (first
      | (go_at_call 10; (with_reducible refine (alive13_any _).mono ?_); rintro e w2 ⟨rfl, hb⟩; have A2 := Lib.hid (A1.out.keep hb); have Lw2 := Lib.hid (LW1.out.trans (hb.mono LW1.out.size)); clear hb)
      | (go_at_call 17; (with_reducible refine (numbers13_any _).mono ?_); rintro e w3 ⟨g, rfl, hn, hb, hg⟩; have N3 := Lib.hid hn; have A3 := Lib.hid (A2.out.keep hb); have Lw3 := Lib.hid (Lw2.out.trans (hb.mono Lw2.out.size)); clear hn hb hg))
    have cn : w3.cell? ⟨g, k, none⟩ = some (.int .i64 n) := (N3.out.cell k).trans HAT.out
    go_upto_region 5 with (fail)
    clear cn
    go_wp2_with (first
      | (refine wpList_ldS (flC f) _ A3.out (by rfl) rfl rfl Try.underlying25 rfl r13fl_size rfl ?_)
      | (go_at_call 13; (with_reducible refine (HP.out _).mono ?_); rintro e w4 ⟨rfl, hb⟩; have A4 := Lib.hid (A3.out.keep hb); have Lw4 := Lib.hid (Lw3.out.trans (hb.mono Lw3.out.size)); clear hb)
      | (refine wpList_newS 29 [.int .u32 0, .int .u32 0, .int .u32 0, .int .u32 0, .int .u32 0, .int .u32 0, .int .u32 0, .int .u32 0, .int .u32 0, .int .u32 0, .int .u32 0, .int .u32 0, .int .u32 0, .int .u32 0, .int .u32 0, .int .u32 0, .int .u64 0] (flC X) w4 _ _ rfl rfl rfl rfl rfl cfl_size rfl rfl (fl_one _) ?_; intro w5 hA hb; have X5 := Lib.hid hA; have A5 := Lib.hid (A4.out.keep hb); have Lw5 := Lib.hid (Lw4.out.trans (hb.mono Lw4.out.size)); clear hA hb)
      | (refine wpList_ldS (flC X) _ X5.out (by rfl) rfl rfl Try.underlying29 rfl cfl_size rfl ?_)
      | (go_at_call 11; (with_reducible refine (HR.out _).mono ?_); rintro e w6 ⟨rfl, hb⟩; have X6 := Lib.hid (X5.out.keep hb); have Lw6 := Lib.hid (Lw5.out.trans (hb.mono Lw5.out.size)); clear hb)
      | (refine wpList_ldS (flC X) _ X6.out (by rfl) rfl rfl Try.underlying29 rfl cfl_size rfl ?_)
      | (go_at_call 13; (with_reducible refine (HQ.out _).mono ?_); rintro e w7 ⟨rfl, hb⟩; have X7 := Lib.hid (X6.out.keep hb); have Lw7 := Lib.hid (Lw6.out.trans (hb.mono Lw6.out.size)); clear hb)
      | (refine wpList_newS 29 [.int .u32 0, .int .u32 0, .int .u32 0, .int .u32 0, .int .u32 0, .int .u32 0, .int .u32 0, .int .u32 0, .int .u32 0, .int .u32 0, .int .u32 0, .int .u32 0, .int .u32 0, .int .u32 0, .int .u32 0, .int .u32 0, .int .u64 0] (flC X) w7 _ _ rfl rfl rfl rfl rfl cfl_size rfl rfl (fl_one _) ?_; intro w8 hA hb; have Y8 := Lib.hid hA; have X8 := Lib.hid (X7.out.keep hb); have Lw8 := Lib.hid (Lw7.out.trans (hb.mono Lw7.out.size)); clear hA hb)
      | (refine wpList_ldS (flC X) _ Y8.out (by rfl) rfl rfl Try.underlying29 rfl cfl_size rfl ?_)
      | (refine wpList_ldS (flC X) _ X8.out (by rfl) rfl rfl Try.underlying29 rfl cfl_size rfl ?_))
    go_ret
    exact ⟨by simp, Lw8.out⟩
  · have hf : wrIs n 3 = false := by simpa using hi
    rw [hf] at HP
    generalize wrM f n 3 v = X at *
    clear hi hf hm
    go_enter Try.func6, Try.ntmps6
    go_upto_region 1 with (fail)
    obtain ⟨W1, hW1⟩ : ∃ W, W = w.alloc (.cells (flC f).toArray 25) := ⟨_, rfl⟩
    have hB := (Below.refl w.heap.size w).alloc (Nat.le_refl _) (.cells (flC f).toArray 25)
    have hA : At W1 w.heap.size 25 (flC f) := by rw [hW1]; exact At.news w 25 (flC f)
    rw [← hW1] at hB
    try rw [← hW1]
    have LW1 := Lib.hid hB
    have A1 := Lib.hid hA
    clear hW1 hB hA
    go_upto_region 4 with (first
      | (go_at_call 10; (with_reducible refine (alive13_any _).mono ?_); rintro e w2 ⟨rfl, hb⟩; have A2 := Lib.hid (A1.out.keep hb); have Lw2 := Lib.hid (LW1.out.trans (hb.mono LW1.out.size)); clear hb)
      | (go_at_call 17; (with_reducible refine (numbers13_any _).mono ?_); rintro e w3 ⟨g, rfl, hn, hb, hg⟩; have N3 := Lib.hid hn; have A3 := Lib.hid (A2.out.keep hb); have Lw3 := Lib.hid (Lw2.out.trans (hb.mono Lw2.out.size)); clear hn hb hg))
    have cn : w3.cell? ⟨g, k, none⟩ = some (.int .i64 n) := (N3.out.cell k).trans HAT.out
    go_upto_region 5 with (fail)
    clear cn
    go_wp2_with (first
      | (refine wpList_ldS (flC f) _ A3.out (by rfl) rfl rfl Try.underlying25 rfl r13fl_size rfl ?_)
      | (go_at_call 13; (with_reducible refine (HP.out _).mono ?_); rintro e w4 ⟨rfl, hb⟩; have A4 := Lib.hid (A3.out.keep hb); have Lw4 := Lib.hid (Lw3.out.trans (hb.mono Lw3.out.size)); clear hb)
      | (refine wpList_newS 29 [.int .u32 0, .int .u32 0, .int .u32 0, .int .u32 0, .int .u32 0, .int .u32 0, .int .u32 0, .int .u32 0, .int .u32 0, .int .u32 0, .int .u32 0, .int .u32 0, .int .u32 0, .int .u32 0, .int .u32 0, .int .u32 0, .int .u64 0] (flC X) w4 _ _ rfl rfl rfl rfl rfl cfl_size rfl rfl (fl_one _) ?_; intro w5 hA hb; have X5 := Lib.hid hA; have A5 := Lib.hid (A4.out.keep hb); have Lw5 := Lib.hid (Lw4.out.trans (hb.mono Lw4.out.size)); clear hA hb))
    go_ret
    exact ⟨rfl, Lw5.out⟩
end Go.Proofs.Ytedpeojgpnnddaa
