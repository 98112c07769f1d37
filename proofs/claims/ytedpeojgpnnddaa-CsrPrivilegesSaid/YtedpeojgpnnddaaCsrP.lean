/- Write and Lines of package csr. -/
import Derived.Test.YtedpeojgpnnddaaCsrPb
import Derived.Deep.RegionWith
import Derived.BigRegion
namespace Go.Proofs.Ytedpeojgpnnddaa
open Go.RowKit Bm
attribute [local go_sem ↓] Go.wp_at_zero Go.wp_at_succ ld13P

set_option maxHeartbeats 1000000 in
theorem q13write_off (f : FileM) (n p : Int) (r v : BitVec 32) (HRD : ∀ W, Calls Try.prog 11 #[.agg (flC f).toArray, .int .i64 n, .int .i64 p] W fun e w' => e = .returned (.tuple #[.int .u32 (U r), .bool false]) ∧ Below W.heap.size W w') (w : World) : Calls Try.prog 13 #[.agg (flC f).toArray, .int .i64 n, .int .i64 p, .int .u32 (U v)] w fun e w' => e = .returned (.tuple #[.agg (flC f).toArray, .bool false]) ∧ Below w.heap.size w w' := by
  have HRD := Lib.hid HRD
  go_enter Try.func13, Try.ntmps13
  go_upto_region 1 with (fail)
  obtain ⟨W1, hW1⟩ : ∃ W, W = (w.alloc (.cells (flC f).toArray 29)).alloc (.cells (flC fl0).toArray 29) := ⟨_, rfl⟩
  have hB := below_two w (.cells (flC f).toArray 29) (.cells (flC fl0).toArray 29)
  have hA : At W1 w.heap.size 29 (flC f) := by rw [hW1]; exact (At.news w 29 (flC f)).alloc _
  have hZ : At W1 (w.heap.size + 1) 29 (flC fl0) := by rw [hW1]; exact At.alloc_new _ 29 (flC fl0) (by simp) rfl
  rw [← hW1] at hB
  first | rw [← hW1] | (change Code.wp _ _ _ _ ((w.alloc (.cells (flC f).toArray 29)).alloc (.cells (flC fl0).toArray 29)); rw [← hW1])
  have HB := Lib.hid hB
  have HA := Lib.hid hA
  have HZ := Lib.hid hZ
  clear hW1 hB hA hZ
  go_upto_region 2 with (first | (refine wpList_ldS (flC f) _ HA.out (by rfl) rfl rfl Try.underlying29 rfl q13fl_size rfl ?_) | (go_at_call 11; (with_reducible refine (HRD.out _).mono ?_); rintro e w6 ⟨rfl, hb⟩; have BL6 := Lib.hid hb; clear hb))
  have hA6 := HA.out.keep BL6.out
  have hZ6 := HZ.out.keep BL6.out
  have hB6 := HB.out.trans (BL6.out.mono HB.out.size)
  have HA6 := Lib.hid hA6
  have HZ6 := Lib.hid hZ6
  have HB6 := Lib.hid hB6
  clear hA6 hZ6 hB6 HA HZ HB BL6
  go_wp2_with (first | (refine wpList_ldS (flC f) _ HA6.out (by rfl) rfl rfl Try.underlying29 rfl q13fl_size rfl ?_) | (refine wpList_stS (z := flC fl0) (flC f) _ _ HZ6.out rfl rfl rfl rfl q13fl_size rfl rfl (fl_one _) ?_; intro w3 hA3 hT3; have HR3 := Lib.hid hA3; have TR3 := Lib.hid hT3; clear hA3 hT3))
  exact bodyPost_ret (res_S2 (v := .bool false) Try.results13 Try.underlying29 q13fl_size rfl _ rfl rfl HR3.out) rfl ⟨rfl, HB6.out.trans (TR3.out.below (B := w.heap.size) (fun k hk => by unfold Just at hk; omega) HB6.out.size)⟩

set_option maxHeartbeats 1000000 in
theorem q13write_fixed (f : FileM) (n p : Int) (r v : BitVec 32) (HRD : ∀ W, Calls Try.prog 11 #[.agg (flC f).toArray, .int .i64 n, .int .i64 p] W fun e w' => e = .returned (.tuple #[.int .u32 (U r), .bool true]) ∧ Below W.heap.size W w') (HF : ∀ W, Calls Try.prog 24 #[.int .i64 n] W fun e w' => e = .returned (.bool true) ∧ w' = W) (w : World) : Calls Try.prog 13 #[.agg (flC f).toArray, .int .i64 n, .int .i64 p, .int .u32 (U v)] w fun e w' => e = .returned (.tuple #[.agg (flC f).toArray, .bool false]) ∧ Below w.heap.size w w' := by
  have HRD := Lib.hid HRD
  have HF := Lib.hid HF
  go_enter Try.func13, Try.ntmps13
  go_upto_region 1 with (fail)
  obtain ⟨W1, hW1⟩ : ∃ W, W = (w.alloc (.cells (flC f).toArray 29)).alloc (.cells (flC fl0).toArray 29) := ⟨_, rfl⟩
  have hB := below_two w (.cells (flC f).toArray 29) (.cells (flC fl0).toArray 29)
  have hA : At W1 w.heap.size 29 (flC f) := by rw [hW1]; exact (At.news w 29 (flC f)).alloc _
  have hZ : At W1 (w.heap.size + 1) 29 (flC fl0) := by rw [hW1]; exact At.alloc_new _ 29 (flC fl0) (by simp) rfl
  rw [← hW1] at hB
  first | rw [← hW1] | (change Code.wp _ _ _ _ ((w.alloc (.cells (flC f).toArray 29)).alloc (.cells (flC fl0).toArray 29)); rw [← hW1])
  have HB := Lib.hid hB
  have HA := Lib.hid hA
  have HZ := Lib.hid hZ
  clear hW1 hB hA hZ
  go_upto_region 2 with (first | (refine wpList_ldS (flC f) _ HA.out (by rfl) rfl rfl Try.underlying29 rfl q13fl_size rfl ?_) | (go_at_call 11; (with_reducible refine (HRD.out _).mono ?_); rintro e w6 ⟨rfl, hb⟩; have BL6 := Lib.hid hb; clear hb))
  have hA6 := HA.out.keep BL6.out
  have hZ6 := HZ.out.keep BL6.out
  have hB6 := HB.out.trans (BL6.out.mono HB.out.size)
  have HA6 := Lib.hid hA6
  have HZ6 := Lib.hid hZ6
  have HB6 := Lib.hid hB6
  clear hA6 hZ6 hB6 HA HZ HB BL6
  go_upto_region 3 with (go_at_call 24; (with_reducible refine (HF.out _).mono ?_); rintro e w5 ⟨rfl, hq⟩; replace hq := hq.symm; subst hq)
  go_wp2_with (first | (refine wpList_ldS (flC f) _ HA6.out (by rfl) rfl rfl Try.underlying29 rfl q13fl_size rfl ?_) | (refine wpList_stS (z := flC fl0) (flC f) _ _ HZ6.out rfl rfl rfl rfl q13fl_size rfl rfl (fl_one _) ?_; intro w3 hA3 hT3; have HR3 := Lib.hid hA3; have TR3 := Lib.hid hT3; clear hA3 hT3))
  exact bodyPost_ret (res_S2 (v := .bool false) Try.results13 Try.underlying29 q13fl_size rfl _ rfl rfl HR3.out) rfl ⟨rfl, HB6.out.trans (TR3.out.below (B := w.heap.size) (fun k hk => by unfold Just at hk; omega) HB6.out.size)⟩

set_option maxHeartbeats 1000000 in
theorem q13write_none (f : FileM) (n p : Int) (r v : BitVec 32) (HRD : ∀ W, Calls Try.prog 11 #[.agg (flC f).toArray, .int .i64 n, .int .i64 p] W fun e w' => e = .returned (.tuple #[.int .u32 (U r), .bool true]) ∧ Below W.heap.size W w') (HF : ∀ W, Calls Try.prog 24 #[.int .i64 n] W fun e w' => e = .returned (.bool false) ∧ w' = W) (HW : ∀ W g, Calls Try.prog 20 #[.pointer (some ⟨g, 0, none⟩), .int .i64 n] W fun e w' => e = .returned (.pointer none) ∧ w' = W) (a2816 : ¬ n = 2816) (a2944 : ¬ n = 2944) (w : World) : Calls Try.prog 13 #[.agg (flC f).toArray, .int .i64 n, .int .i64 p, .int .u32 (U v)] w fun e w' => e = .returned (.tuple #[.agg (flC f).toArray, .bool true]) ∧ Below w.heap.size w w' := by
  have HRD := Lib.hid HRD
  have HF := Lib.hid HF
  have HW := Lib.hid HW
  go_enter Try.func13, Try.ntmps13
  go_upto_region 1 with (fail)
  obtain ⟨W1, hW1⟩ : ∃ W, W = (w.alloc (.cells (flC f).toArray 29)).alloc (.cells (flC fl0).toArray 29) := ⟨_, rfl⟩
  have hB := below_two w (.cells (flC f).toArray 29) (.cells (flC fl0).toArray 29)
  have hA : At W1 w.heap.size 29 (flC f) := by rw [hW1]; exact (At.news w 29 (flC f)).alloc _
  have hZ : At W1 (w.heap.size + 1) 29 (flC fl0) := by rw [hW1]; exact At.alloc_new _ 29 (flC fl0) (by simp) rfl
  rw [← hW1] at hB
  first | rw [← hW1] | (change Code.wp _ _ _ _ ((w.alloc (.cells (flC f).toArray 29)).alloc (.cells (flC fl0).toArray 29)); rw [← hW1])
  have HB := Lib.hid hB
  have HA := Lib.hid hA
  have HZ := Lib.hid hZ
  clear hW1 hB hA hZ
  go_upto_region 2 with (first | (refine wpList_ldS (flC f) _ HA.out (by rfl) rfl rfl Try.underlying29 rfl q13fl_size rfl ?_) | (go_at_call 11; (with_reducible refine (HRD.out _).mono ?_); rintro e w6 ⟨rfl, hb⟩; have BL6 := Lib.hid hb; clear hb))
  have hA6 := HA.out.keep BL6.out
  have hZ6 := HZ.out.keep BL6.out
  have hB6 := HB.out.trans (BL6.out.mono HB.out.size)
  have HA6 := Lib.hid hA6
  have HZ6 := Lib.hid hZ6
  have HB6 := Lib.hid hB6
  clear hA6 hZ6 hB6 HA HZ HB BL6
  go_upto_region 4 with (go_at_call 24; (with_reducible refine (HF.out _).mono ?_); rintro e w5 ⟨rfl, hq⟩; replace hq := hq.symm; subst hq)
  go_upto_region 12 with (go_at_call 20; (with_reducible refine (HW.out _ _).mono ?_); rintro e w5 ⟨rfl, hq⟩; replace hq := hq.symm; subst hq)
  go_wp2_with (first | (refine wpList_ldS (flC f) _ HA6.out (by rfl) rfl rfl Try.underlying29 rfl q13fl_size rfl ?_) | (refine wpList_stS (z := flC fl0) (flC f) _ _ HZ6.out rfl rfl rfl rfl q13fl_size rfl rfl (fl_one _) ?_; intro w3 hA3 hT3; have HR3 := Lib.hid hA3; have TR3 := Lib.hid hT3; clear hA3 hT3))
  exact bodyPost_ret (res_S2 (v := .bool true) Try.results13 Try.underlying29 q13fl_size rfl _ rfl rfl HR3.out) rfl ⟨rfl, HB6.out.trans (TR3.out.below (B := w.heap.size) (fun k hk => by unfold Just at hk; omega) HB6.out.size)⟩

set_option maxHeartbeats 1000000 in
theorem q13write_2816 (f : FileM) (p : Int) (r v : BitVec 32) (HRD : ∀ W, Calls Try.prog 11 #[.agg (flC f).toArray, .int .i64 2816, .int .i64 p] W fun e w' => e = .returned (.tuple #[.int .u32 (U r), .bool true]) ∧ Below W.heap.size W w') (HF : ∀ W, Calls Try.prog 24 #[.int .i64 2816] W fun e w' => e = .returned (.bool false) ∧ w' = W) (w : World) : Calls Try.prog 13 #[.agg (flC f).toArray, .int .i64 2816, .int .i64 p, .int .u32 (U v)] w fun e w' => e = .returned (.tuple #[.agg (flC { f with lo := v }).toArray, .bool true]) ∧ Below w.heap.size w w' := by
  have HRD := Lib.hid HRD
  have HF := Lib.hid HF
  have HW := Lib.hid (fun W g => q13word_no 2816 g W (by decide))
  have g1 : bits .andNot .u64 f.cyc 4294967295 = U f.hi * 4294967296 := high_half f.hi f.lo
  have g2 := both_halves f.hi v
  have b3 := U_nonneg v
  have b4 := U_lt v
  have g4 : IntKind.u64.wrap (U v) = U v := by rw [IntKind.wrap_u64]; omega
  clear b3 b4
  go_enter Try.func13, Try.ntmps13
  go_upto_region 1 with (fail)
  obtain ⟨W1, hW1⟩ : ∃ W, W = (w.alloc (.cells (flC f).toArray 29)).alloc (.cells (flC fl0).toArray 29) := ⟨_, rfl⟩
  have hB := below_two w (.cells (flC f).toArray 29) (.cells (flC fl0).toArray 29)
  have hA : At W1 w.heap.size 29 (flC f) := by rw [hW1]; exact (At.news w 29 (flC f)).alloc _
  have hZ : At W1 (w.heap.size + 1) 29 (flC fl0) := by rw [hW1]; exact At.alloc_new _ 29 (flC fl0) (by simp) rfl
  rw [← hW1] at hB
  first | rw [← hW1] | (change Code.wp _ _ _ _ ((w.alloc (.cells (flC f).toArray 29)).alloc (.cells (flC fl0).toArray 29)); rw [← hW1])
  have HB := Lib.hid hB
  have HA := Lib.hid hA
  have HZ := Lib.hid hZ
  clear hW1 hB hA hZ
  go_upto_region 2 with (first | (refine wpList_ldS (flC f) _ HA.out (by rfl) rfl rfl Try.underlying29 rfl q13fl_size rfl ?_) | (go_at_call 11; (with_reducible refine (HRD.out _).mono ?_); rintro e w6 ⟨rfl, hb⟩; have BL6 := Lib.hid hb; clear hb))
  have hA6 := HA.out.keep BL6.out
  have hZ6 := HZ.out.keep BL6.out
  have hB6 := HB.out.trans (BL6.out.mono HB.out.size)
  have HA6 := Lib.hid hA6
  have HZ6 := Lib.hid hZ6
  have HB6 := Lib.hid hB6
  clear hA6 hZ6 hB6 HA HZ HB BL6
  go_upto_region 4 with (go_at_call 24; (with_reducible refine (HF.out _).mono ?_); rintro e w5 ⟨rfl, hq⟩; replace hq := hq.symm; subst hq)
  have c_cyc : w6.cell? ⟨w.heap.size, 16, none⟩ = some (.int .u64 f.cyc) := HA6.out.cell 16
  have f_16 : w6.frozen? ⟨w.heap.size, 16, none⟩ = false := HA6.out.frozen 16
  go_upto_region 9 with (fail)
  obtain ⟨W2, hW2⟩ : ∃ W, W = w6.setCell ⟨w.heap.size, 16, none⟩ (.int .u64 (U f.hi * 4294967296 + U v)) := ⟨_, rfl⟩
  have hA2 : At W2 w.heap.size 29 (flC { f with lo := v }) := by rw [hW2]; exact (HA6.out.put 16 (.int .u64 (U f.hi * 4294967296 + U v))).as rfl
  have hZ2 : At W2 (w.heap.size + 1) 29 (flC fl0) := by rw [hW2]; exact HZ6.out.far (by simp) _
  have hB2 : Below w.heap.size w W2 := by rw [hW2]; exact HB6.out.setCell (Nat.le_refl _) _
  first | rw [← hW2] | (change Code.wp _ _ _ _ (w6.setCell ⟨w.heap.size, 16, none⟩ (.int .u64 (U f.hi * 4294967296 + U v))); rw [← hW2])
  have HA2 := Lib.hid hA2
  have HZ2 := Lib.hid hZ2
  have HB2 := Lib.hid hB2
  clear hW2 hA2 hZ2 hB2 c_cyc f_16 g1 g2 g4
  go_upto_region 12 with (go_at_call 20; (with_reducible refine (HW.out _ _).mono ?_); rintro e w5 ⟨rfl, hq⟩; replace hq := hq.symm; subst hq)
  go_wp2_with (first | (refine wpList_ldS (flC { f with lo := v }) _ HA2.out (by rfl) rfl rfl Try.underlying29 rfl q13fl_size rfl ?_) | (refine wpList_stS (z := flC fl0) (flC { f with lo := v }) _ _ HZ2.out rfl rfl rfl rfl q13fl_size rfl rfl (fl_one _) ?_; intro w3 hA3 hT3; have HR3 := Lib.hid hA3; have TR3 := Lib.hid hT3; clear hA3 hT3))
  exact bodyPost_ret (res_S2 (v := .bool true) Try.results13 Try.underlying29 q13fl_size rfl _ rfl rfl HR3.out) rfl ⟨rfl, HB2.out.trans (TR3.out.below (B := w.heap.size) (fun k hk => by unfold Just at hk; omega) HB2.out.size)⟩

set_option maxHeartbeats 1000000 in
theorem q13write_2944 (f : FileM) (p : Int) (r v : BitVec 32) (HRD : ∀ W, Calls Try.prog 11 #[.agg (flC f).toArray, .int .i64 2944, .int .i64 p] W fun e w' => e = .returned (.tuple #[.int .u32 (U r), .bool true]) ∧ Below W.heap.size W w') (HF : ∀ W, Calls Try.prog 24 #[.int .i64 2944] W fun e w' => e = .returned (.bool false) ∧ w' = W) (w : World) : Calls Try.prog 13 #[.agg (flC f).toArray, .int .i64 2944, .int .i64 p, .int .u32 (U v)] w fun e w' => e = .returned (.tuple #[.agg (flC { f with hi := v }).toArray, .bool true]) ∧ Below w.heap.size w w' := by
  have HRD := Lib.hid HRD
  have HF := Lib.hid HF
  have HW := Lib.hid (fun W g => q13word_no 2944 g W (by decide))
  have g1 : bits .and .u64 f.cyc 4294967295 = U f.lo := low_half f.hi f.lo
  have g2 := halves_both v f.lo
  have b3 := U_nonneg v
  have b4 := U_lt v
  have g3 : IntKind.u64.wrap (U v * 4294967296) = U v * 4294967296 := by rw [IntKind.wrap_u64]; omega
  have g4 : IntKind.u64.wrap (U v) = U v := by rw [IntKind.wrap_u64]; omega
  clear b3 b4
  go_enter Try.func13, Try.ntmps13
  go_upto_region 1 with (fail)
  obtain ⟨W1, hW1⟩ : ∃ W, W = (w.alloc (.cells (flC f).toArray 29)).alloc (.cells (flC fl0).toArray 29) := ⟨_, rfl⟩
  have hB := below_two w (.cells (flC f).toArray 29) (.cells (flC fl0).toArray 29)
  have hA : At W1 w.heap.size 29 (flC f) := by rw [hW1]; exact (At.news w 29 (flC f)).alloc _
  have hZ : At W1 (w.heap.size + 1) 29 (flC fl0) := by rw [hW1]; exact At.alloc_new _ 29 (flC fl0) (by simp) rfl
  rw [← hW1] at hB
  first | rw [← hW1] | (change Code.wp _ _ _ _ ((w.alloc (.cells (flC f).toArray 29)).alloc (.cells (flC fl0).toArray 29)); rw [← hW1])
  have HB := Lib.hid hB
  have HA := Lib.hid hA
  have HZ := Lib.hid hZ
  clear hW1 hB hA hZ
  go_upto_region 2 with (first | (refine wpList_ldS (flC f) _ HA.out (by rfl) rfl rfl Try.underlying29 rfl q13fl_size rfl ?_) | (go_at_call 11; (with_reducible refine (HRD.out _).mono ?_); rintro e w6 ⟨rfl, hb⟩; have BL6 := Lib.hid hb; clear hb))
  have hA6 := HA.out.keep BL6.out
  have hZ6 := HZ.out.keep BL6.out
  have hB6 := HB.out.trans (BL6.out.mono HB.out.size)
  have HA6 := Lib.hid hA6
  have HZ6 := Lib.hid hZ6
  have HB6 := Lib.hid hB6
  clear hA6 hZ6 hB6 HA HZ HB BL6
  go_upto_region 4 with (go_at_call 24; (with_reducible refine (HF.out _).mono ?_); rintro e w5 ⟨rfl, hq⟩; replace hq := hq.symm; subst hq)
  have c_cyc : w6.cell? ⟨w.heap.size, 16, none⟩ = some (.int .u64 f.cyc) := HA6.out.cell 16
  have f_16 : w6.frozen? ⟨w.heap.size, 16, none⟩ = false := HA6.out.frozen 16
  go_upto_region 9 with (fail)
  obtain ⟨W2, hW2⟩ : ∃ W, W = w6.setCell ⟨w.heap.size, 16, none⟩ (.int .u64 (U v * 4294967296 + U f.lo)) := ⟨_, rfl⟩
  have hA2 : At W2 w.heap.size 29 (flC { f with hi := v }) := by rw [hW2]; exact (HA6.out.put 16 (.int .u64 (U v * 4294967296 + U f.lo))).as rfl
  have hZ2 : At W2 (w.heap.size + 1) 29 (flC fl0) := by rw [hW2]; exact HZ6.out.far (by simp) _
  have hB2 : Below w.heap.size w W2 := by rw [hW2]; exact HB6.out.setCell (Nat.le_refl _) _
  first | rw [← hW2] | (change Code.wp _ _ _ _ (w6.setCell ⟨w.heap.size, 16, none⟩ (.int .u64 (U v * 4294967296 + U f.lo))); rw [← hW2])
  have HA2 := Lib.hid hA2
  have HZ2 := Lib.hid hZ2
  have HB2 := Lib.hid hB2
  clear hW2 hA2 hZ2 hB2 c_cyc f_16 g1 g2 g3 g4
  go_upto_region 12 with (go_at_call 20; (with_reducible refine (HW.out _ _).mono ?_); rintro e w5 ⟨rfl, hq⟩; replace hq := hq.symm; subst hq)
  go_wp2_with (first | (refine wpList_ldS (flC { f with hi := v }) _ HA2.out (by rfl) rfl rfl Try.underlying29 rfl q13fl_size rfl ?_) | (refine wpList_stS (z := flC fl0) (flC { f with hi := v }) _ _ HZ2.out rfl rfl rfl rfl q13fl_size rfl rfl (fl_one _) ?_; intro w3 hA3 hT3; have HR3 := Lib.hid hA3; have TR3 := Lib.hid hT3; clear hA3 hT3))
  exact bodyPost_ret (res_S2 (v := .bool true) Try.results13 Try.underlying29 q13fl_size rfl _ rfl rfl HR3.out) rfl ⟨rfl, HB2.out.trans (TR3.out.below (B := w.heap.size) (fun k hk => by unfold Just at hk; omega) HB2.out.size)⟩

set_option maxRecDepth 100000 in
set_option maxHeartbeats 4000000 in
theorem q13write_word (f Z : FileM) (n p : Int) (i : Nat) (r v x y m : BitVec 32) (HRD : ∀ W, Calls Try.prog 11 #[.agg (flC f).toArray, .int .i64 n, .int .i64 p] W fun e w' => e = .returned (.tuple #[.int .u32 (U r), .bool true]) ∧ Below W.heap.size W w') (HF : ∀ W, Calls Try.prog 24 #[.int .i64 n] W fun e w' => e = .returned (.bool false) ∧ w' = W) (HW : ∀ W g, Calls Try.prog 20 #[.pointer (some ⟨g, 0, none⟩), .int .i64 n] W fun e w' => e = .returned (.pointer (some ⟨g, i, none⟩)) ∧ w' = W) (HO : ∀ W, Calls Try.prog 26 #[.agg (flC f).toArray, .int .i64 n] W fun e w' => e = .returned (.int .u32 (U m)) ∧ Below W.heap.size W w') (HT : ∀ W, Calls Try.prog 27 #[.int .i64 n, .int .u32 (U v)] W fun e w' => e = .returned (.int .u32 (U y)) ∧ w' = W) (HX : ∀ W g, At W g 29 (flC f) → W.cell? ⟨g, i, none⟩ = some (.int .u32 (U x))) (HZ : (flC f).set i (.int .u32 (U (maskB x y m))) = flC Z) (a2816 : ¬ n = 2816) (a2944 : ¬ n = 2944) (w : World) : Calls Try.prog 13 #[.agg (flC f).toArray, .int .i64 n, .int .i64 p, .int .u32 (U v)] w fun e w' => e = .returned (.tuple #[.agg (flC Z).toArray, .bool true]) ∧ Below w.heap.size w w' := by
  have HRD := Lib.hid HRD
  have HF := Lib.hid HF
  have HW := Lib.hid HW
  have HO := Lib.hid HO
  have HT := Lib.hid HT
  have HX := Lib.hid HX
  have HS := Lib.hid HZ
  have HM := Lib.hid (fun W => q13replace_any x m y W)
  clear HZ
  go_enter Try.func13, Try.ntmps13
  go_upto_region 1 with (fail)
  obtain ⟨W1, hW1⟩ : ∃ W, W = (w.alloc (.cells (flC f).toArray 29)).alloc (.cells (flC fl0).toArray 29) := ⟨_, rfl⟩
  have hB := below_two w (.cells (flC f).toArray 29) (.cells (flC fl0).toArray 29)
  have hA : At W1 w.heap.size 29 (flC f) := by rw [hW1]; exact (At.news w 29 (flC f)).alloc _
  have hZ : At W1 (w.heap.size + 1) 29 (flC fl0) := by rw [hW1]; exact At.alloc_new _ 29 (flC fl0) (by simp) rfl
  rw [← hW1] at hB
  first | rw [← hW1] | (change Code.wp _ _ _ _ ((w.alloc (.cells (flC f).toArray 29)).alloc (.cells (flC fl0).toArray 29)); rw [← hW1])
  have HB := Lib.hid hB
  have HA := Lib.hid hA
  have HZ := Lib.hid hZ
  clear hW1 hB hA hZ
  go_upto_region 2 with (first | (refine wpList_ldS (flC f) _ HA.out (by rfl) rfl rfl Try.underlying29 rfl q13fl_size rfl ?_) | (go_at_call 11; (with_reducible refine (HRD.out _).mono ?_); rintro e w6 ⟨rfl, hb⟩; have BL6 := Lib.hid hb; clear hb))
  have hA6 := HA.out.keep BL6.out
  have hZ6 := HZ.out.keep BL6.out
  have hB6 := HB.out.trans (BL6.out.mono HB.out.size)
  have HA6 := Lib.hid hA6
  have HZ6 := Lib.hid hZ6
  have HB6 := Lib.hid hB6
  clear hA6 hZ6 hB6 HA HZ HB BL6
  go_upto_region 4 with (go_at_call 24; (with_reducible refine (HF.out _).mono ?_); rintro e w5 ⟨rfl, hq⟩; replace hq := hq.symm; subst hq)
  go_upto_region 11 with (go_at_call 20; (with_reducible refine (HW.out _ _).mono ?_); rintro e w5 ⟨rfl, hq⟩; replace hq := hq.symm; subst hq)
  have ea : ∀ W, Below w6.heap.size w6 W → (run_ex (loadOf 29) (.pointer (some ⟨w.heap.size, 0, none⟩)) W).choose = .ok (.value (.agg (flC f).toArray)) W := fun W h => ld13P_at (HA6.out.keep h)
  have ex : ∀ W, Below w6.heap.size w6 W → W.cell? ⟨w.heap.size, i, none⟩ = some (.int .u32 (U x)) := fun W h => HX.out _ _ (HA6.out.keep h)
  have ef : ∀ W, Below w6.heap.size w6 W → W.frozen? ⟨w.heap.size, i, none⟩ = false := fun W h => (HA6.out.keep h).frozen i
  have S0 : Below w6.heap.size w6 w6 := Below.refl _ _
  have S1 : Below w6.heap.size w6 w6.drew := S0.drew
  go_region_with (first
    | (go_at_call 26; (with_reducible refine (HO.out _).mono ?_); rintro e w7 ⟨rfl, hb⟩; have S7 := S1.trans (hb.mono S1.size); clear hb)
    | (go_at_call 27; (with_reducible refine (HT.out _).mono ?_); rintro e w5 ⟨rfl, hq⟩; replace hq := hq.symm; subst hq)
    | (go_at_call 25; (with_reducible refine (HM.out _).mono ?_); rintro e w5 ⟨rfl, hq⟩; replace hq := hq.symm; subst hq))
  all_goals (
    obtain ⟨W2, hW2⟩ : ∃ W, W = w7.setCell ⟨w.heap.size, i, none⟩ (.int .u32 (U (maskB x y m))) := ⟨_, rfl⟩
    have hA2 : At W2 w.heap.size 29 (flC Z) := by rw [hW2]; exact ((HA6.out.keep S7).put i (.int .u32 (U (maskB x y m)))).as HS.out
    have hZ2 : At W2 (w.heap.size + 1) 29 (flC fl0) := by rw [hW2]; exact (HZ6.out.keep S7).far (by simp) _
    have hB2 : Below w.heap.size w W2 := by rw [hW2]; exact (HB6.out.trans (S7.mono HB6.out.size)).setCell (Nat.le_refl _) _
    rw [← hW2]
    have HA2 := Lib.hid hA2
    have HZ2 := Lib.hid hZ2
    have HB2 := Lib.hid hB2
    clear hW2 hA2 hZ2 hB2 ea ex ef S0 S1 S7
    go_simp
    go_wp2_with (first | (refine wpList_ldS (flC Z) _ HA2.out (by rfl) rfl rfl Try.underlying29 rfl q13fl_size rfl ?_) | (refine wpList_stS (z := flC fl0) (flC Z) _ _ HZ2.out rfl rfl rfl rfl q13fl_size rfl rfl (fl_one _) ?_; intro w3 hA3 hT3; have HR3 := Lib.hid hA3; have TR3 := Lib.hid hT3; clear hA3 hT3))
    exact bodyPost_ret (res_S2 (v := .bool true) Try.results13 Try.underlying29 q13fl_size rfl _ rfl rfl HR3.out) rfl ⟨rfl, HB2.out.trans (TR3.out.below (B := w.heap.size) (fun k hk => by unfold Just at hk; omega) HB2.out.size)⟩)

set_option maxHeartbeats 1000000 in
theorem lines13_any (f : FileM) (l : BitVec 32) (w : World) : Calls Try.prog 15 #[.agg (flC f).toArray, .int .u32 (U l)] w fun e w' => e = .returned (.agg (flC (lnM f l)).toArray) ∧ Below w.heap.size w w' := by
  have HM : Hid (∀ W, Calls Try.prog 25 #[.int .u32 (U f.mip), .int .u32 2184, .int .u32 (U l)] W fun e w' => e = .returned (.int .u32 (U (maskB f.mip l 2184#32))) ∧ w' = W) := Lib.hid (fun W => q13replace_any f.mip 2184#32 l W)
  go_enter Try.func15, Try.ntmps15
  go_upto_region 1 with (fail)
  obtain ⟨W1, hW1⟩ : ∃ W, W = (w.alloc (.cells (flC f).toArray 29)).alloc (.cells (flC fl0).toArray 29) := ⟨_, rfl⟩
  have hB := below_two w (.cells (flC f).toArray 29) (.cells (flC fl0).toArray 29)
  have hA : At W1 w.heap.size 29 (flC f) := by rw [hW1]; exact (At.news w 29 (flC f)).alloc _
  have hZ : At W1 (w.heap.size + 1) 29 (flC fl0) := by rw [hW1]; exact At.alloc_new _ 29 (flC fl0) (by simp) rfl
  rw [← hW1] at hB
  first | rw [← hW1] | (change Code.wp _ _ _ _ ((w.alloc (.cells (flC f).toArray 29)).alloc (.cells (flC fl0).toArray 29)); rw [← hW1])
  have HB := Lib.hid hB
  have HA := Lib.hid hA
  have HZ := Lib.hid hZ
  clear hW1 hB hA hZ
  have c_mip : W1.cell? ⟨w.heap.size, 4, none⟩ = some (.int .u32 (U f.mip)) := HA.out.cell 4
  have f_4 : W1.frozen? ⟨w.heap.size, 4, none⟩ = false := HA.out.frozen 4
  go_upto_region 2 with (go_at_call 25; (with_reducible refine (HM.out _).mono ?_); rintro e w5 ⟨rfl, hq⟩; replace hq := hq.symm; subst hq)
  obtain ⟨W2, hW2⟩ : ∃ W, W = W1.setCell ⟨w.heap.size, 4, none⟩ (.int .u32 (U (maskB f.mip l 2184#32))) := ⟨_, rfl⟩
  have hA2 : At W2 w.heap.size 29 (flC (lnM f l)) := by rw [hW2]; exact (HA.out.put 4 (.int .u32 (U (maskB f.mip l 2184#32)))).as rfl
  have hZ2 : At W2 (w.heap.size + 1) 29 (flC fl0) := by rw [hW2]; exact HZ.out.far (by simp) _
  have hB2 : Below w.heap.size w W2 := by rw [hW2]; exact HB.out.setCell (Nat.le_refl _) _
  first | rw [← hW2] | (change Code.wp _ _ _ _ (W1.setCell ⟨w.heap.size, 4, none⟩ (.int .u32 (U (maskB f.mip l 2184#32)))); rw [← hW2])
  have HA2 := Lib.hid hA2
  have HZ2 := Lib.hid hZ2
  have HB2 := Lib.hid hB2
  clear hW2 hA2 hZ2 hB2
  go_wp2_with (first | (refine wpList_ldS (flC (lnM f l)) _ HA2.out (by rfl) rfl rfl Try.underlying29 rfl q13fl_size rfl ?_) | (refine wpList_stS (z := flC fl0) (flC (lnM f l)) _ _ HZ2.out rfl rfl rfl rfl q13fl_size rfl rfl (fl_one _) ?_; intro w3 hA3 hT3; have HR3 := Lib.hid hA3; have TR3 := Lib.hid hT3; clear hA3 hT3))
  exact bodyPost_ret (res_S1 Try.results15 Try.underlying29 q13fl_size rfl _ rfl HR3.out) rfl ⟨rfl, HB2.out.trans (TR3.out.below (B := w.heap.size) (fun k hk => by unfold Just at hk; omega) HB2.out.size)⟩

theorem q13nums {n : Int} (h : knIs n = true) : n = 256 ∨ n = 260 ∨ n = 261 ∨ n = 320 ∨ n = 321 ∨ n = 322 ∨ n = 323 ∨ n = 324 ∨ n = 384 ∨ n = 768 ∨ n = 769 ∨ n = 770 ∨ n = 771 ∨ n = 772 ∨ n = 773 ∨ n = 832 ∨ n = 833 ∨ n = 834 ∨ n = 835 ∨ n = 836 ∨ n = 2816 ∨ n = 2944 ∨ n = 3072 ∨ n = 3200 ∨ n = 3857 ∨ n = 3858 ∨ n = 3859 ∨ n = 3860 := by simpa [knIs, numL] using h
theorem q13low {n : Int} (h : knIs n = true) : bits .and .i64 (n / 256) 3 = n / 256 % 4 := by
  rcases q13nums h with rfl | rfl | rfl | rfl | rfl | rfl | rfl | rfl | rfl | rfl | rfl | rfl | rfl | rfl | rfl | rfl | rfl | rfl | rfl | rfl | rfl | rfl | rfl | rfl | rfl | rfl | rfl | rfl <;> decide
theorem q13fix {n : Int} (h : knIs n = true) : (bits .and .i64 (n / 1024) 3 == 3) = decide (n / 1024 % 4 = 3) := by
  rcases q13nums h with rfl | rfl | rfl | rfl | rfl | rfl | rfl | rfl | rfl | rfl | rfl | rfl | rfl | rfl | rfl | rfl | rfl | rfl | rfl | rfl | rfl | rfl | rfl | rfl | rfl | rfl | rfl | rfl <;> decide
theorem q13all (x : BitVec 32) : x &&& 4294967295#32 = x := BitVec.and_allOnes
/-- What a number of a word says, and where its word stands. -/
theorem q13known (f : FileM) {n : Int} (h : n = 256 ∨ n = 768 ∨ n = 770 ∨ n = 771 ∨ n = 260 ∨ n = 772 ∨ n = 324 ∨ n = 836 ∨ n = 261 ∨ n = 320 ∨ n = 321 ∨ n = 322 ∨ n = 323 ∨ n = 384 ∨ n = 773 ∨ n = 832 ∨ n = 833 ∨ n = 834 ∨ n = 835) : ∃ (i : Nat) (x : BitVec 32), (∀ W g, Calls Try.prog 20 #[.pointer (some ⟨g, 0, none⟩), .int .i64 n] W fun e w' => e = .returned (.pointer (some ⟨g, i, none⟩)) ∧ w' = W) ∧ (∀ W g, At W g 29 (flC f) → W.cell? ⟨g, i, none⟩ = some (.int .u32 (U x))) ∧ knM f n = x &&& shM f n ∧ ∀ v, flC (wrF f n v) = (flC f).set i (.int .u32 (U (maskB x (fitM n v) (opM f n)))) := by
  rcases h with rfl | rfl | rfl | rfl | rfl | rfl | rfl | rfl | rfl | rfl | rfl | rfl | rfl | rfl | rfl | rfl | rfl | rfl | rfl
  · refine ⟨0, f.st, fun W g => q13word_256 g W, fun W g hA => hA.cell 0, ?_, fun v => ?_⟩
    · rw [knM_256]; rfl
    · rw [wrF_256]; rfl
  · refine ⟨0, f.st, fun W g => q13word_768 g W, fun W g hA => hA.cell 0, ?_, fun v => ?_⟩
    · rw [knM_768]; exact (q13all f.st).symm
    · rw [wrF_768]; rfl
  · refine ⟨1, f.md, fun W g => q13word_770 g W, fun W g hA => hA.cell 1, ?_, fun v => ?_⟩
    · rw [knM_770]; exact (q13all f.md).symm
    · rw [wrF_770]; rfl
  · refine ⟨2, f.ml, fun W g => q13word_771 g W, fun W g hA => hA.cell 2, ?_, fun v => ?_⟩
    · rw [knM_771]; exact (q13all f.ml).symm
    · rw [wrF_771]; rfl
  · refine ⟨3, f.mie, fun W g => q13word_260 g W, fun W g hA => hA.cell 3, ?_, fun v => ?_⟩
    · rw [knM_260]; rfl
    · rw [wrF_260]; rfl
  · refine ⟨3, f.mie, fun W g => q13word_772 g W, fun W g hA => hA.cell 3, ?_, fun v => ?_⟩
    · rw [knM_772]; exact (q13all f.mie).symm
    · rw [wrF_772]; rfl
  · refine ⟨4, f.mip, fun W g => q13word_324 g W, fun W g hA => hA.cell 4, ?_, fun v => ?_⟩
    · rw [knM_324]; rfl
    · rw [wrF_324]; rfl
  · refine ⟨4, f.mip, fun W g => q13word_836 g W, fun W g hA => hA.cell 4, ?_, fun v => ?_⟩
    · rw [knM_836]; exact (q13all f.mip).symm
    · rw [wrF_836]; rfl
  · refine ⟨10, f.stvec, fun W g => q13word_261 g W, fun W g hA => hA.cell 10, ?_, fun v => ?_⟩
    · rw [knM_261]; exact (q13all f.stvec).symm
    · rw [wrF_261]; rw [show opM f 261 = 4294967295#32 from rfl, mask_all]; rfl
  · refine ⟨11, f.sscr, fun W g => q13word_320 g W, fun W g hA => hA.cell 11, ?_, fun v => ?_⟩
    · rw [knM_320]; exact (q13all f.sscr).symm
    · rw [wrF_320]; rw [show opM f 320 = 4294967295#32 from rfl, mask_all]; rfl
  · refine ⟨12, f.sepc, fun W g => q13word_321 g W, fun W g hA => hA.cell 12, ?_, fun v => ?_⟩
    · rw [knM_321]; exact (q13all f.sepc).symm
    · rw [wrF_321]; rw [show opM f 321 = 4294967295#32 from rfl, mask_all]; rfl
  · refine ⟨13, f.scause, fun W g => q13word_322 g W, fun W g hA => hA.cell 13, ?_, fun v => ?_⟩
    · rw [knM_322]; exact (q13all f.scause).symm
    · rw [wrF_322]; rw [show opM f 322 = 4294967295#32 from rfl, mask_all]; rfl
  · refine ⟨14, f.stval, fun W g => q13word_323 g W, fun W g hA => hA.cell 14, ?_, fun v => ?_⟩
    · rw [knM_323]; exact (q13all f.stval).symm
    · rw [wrF_323]; rw [show opM f 323 = 4294967295#32 from rfl, mask_all]; rfl
  · refine ⟨15, f.satp, fun W g => q13word_384 g W, fun W g hA => hA.cell 15, ?_, fun v => ?_⟩
    · rw [knM_384]; exact (q13all f.satp).symm
    · rw [wrF_384]; rw [show opM f 384 = 4294967295#32 from rfl, mask_all]; rfl
  · refine ⟨5, f.mtvec, fun W g => q13word_773 g W, fun W g hA => hA.cell 5, ?_, fun v => ?_⟩
    · rw [knM_773]; exact (q13all f.mtvec).symm
    · rw [wrF_773]; rw [show opM f 773 = 4294967295#32 from rfl, mask_all]; rfl
  · refine ⟨6, f.mscr, fun W g => q13word_832 g W, fun W g hA => hA.cell 6, ?_, fun v => ?_⟩
    · rw [knM_832]; exact (q13all f.mscr).symm
    · rw [wrF_832]; rw [show opM f 832 = 4294967295#32 from rfl, mask_all]; rfl
  · refine ⟨7, f.mepc, fun W g => q13word_833 g W, fun W g hA => hA.cell 7, ?_, fun v => ?_⟩
    · rw [knM_833]; exact (q13all f.mepc).symm
    · rw [wrF_833]; rw [show opM f 833 = 4294967295#32 from rfl, mask_all]; rfl
  · refine ⟨8, f.mcause, fun W g => q13word_834 g W, fun W g hA => hA.cell 8, ?_, fun v => ?_⟩
    · rw [knM_834]; exact (q13all f.mcause).symm
    · rw [wrF_834]; rw [show opM f 834 = 4294967295#32 from rfl, mask_all]; rfl
  · refine ⟨9, f.mtval, fun W g => q13word_835 g W, fun W g hA => hA.cell 9, ?_, fun v => ?_⟩
    · rw [knM_835]; exact (q13all f.mtval).symm
    · rw [wrF_835]; rw [show opM f 835 = 4294967295#32 from rfl, mask_all]; rfl

theorem q13is {n : Int} (h : n = 256 ∨ n = 768 ∨ n = 770 ∨ n = 771 ∨ n = 260 ∨ n = 772 ∨ n = 324 ∨ n = 836 ∨ n = 261 ∨ n = 320 ∨ n = 321 ∨ n = 322 ∨ n = 323 ∨ n = 384 ∨ n = 773 ∨ n = 832 ∨ n = 833 ∨ n = 834 ∨ n = 835) : knIs n = true := by
  rcases h with rfl | rfl | rfl | rfl | rfl | rfl | rfl | rfl | rfl | rfl | rfl | rfl | rfl | rfl | rfl | rfl | rfl | rfl | rfl <;> decide
theorem q13rest_is {n : Int} (h : n = 2816 ∨ n = 3072 ∨ n = 2944 ∨ n = 3200 ∨ n = 769 ∨ n = 3857 ∨ n = 3858 ∨ n = 3859 ∨ n = 3860) : knIs n = true := by
  rcases h with rfl | rfl | rfl | rfl | rfl | rfl | rfl | rfl | rfl <;> decide
theorem q13none (f : FileM) {n : Int} (h : knIs n = false) : knM f n = 0#32 := by
  refine (q13out f n (fun c => ?_) (fun c => ?_)).1
  · rw [q13rest_is c] at h; cases h
  · rw [q13is c] at h; cases h

theorem read13_any (f : FileM) (n p : Int) (w : World) : Calls Try.prog 11 #[.agg (flC f).toArray, .int .i64 n, .int .i64 p] w fun e w' => e = .returned (.tuple #[.int .u32 (U (rdM f n p)), .bool (rdIs n p)]) ∧ Below w.heap.size w w' := by
  have HL := fun W => q13lowest_any n W
  by_cases hk : knIs n = true
  · rw [q13low hk] at HL
    by_cases c : p < n / 256 % 4
    · have e1 : rdIs n p = false := by unfold rdIs; rw [hk]; simp; omega
      have e2 : rdM f n p = 0#32 := by unfold rdM; rw [e1]; rfl
      rw [e1, e2]
      exact q13read_up f n p _ HL c w
    · have e1 : rdIs n p = true := by unfold rdIs; rw [hk]; simp; omega
      have e2 : rdM f n p = knM f n := by unfold rdM; rw [e1]; rfl
      rw [e1, e2]
      by_cases hw : n = 256 ∨ n = 768 ∨ n = 770 ∨ n = 771 ∨ n = 260 ∨ n = 772 ∨ n = 324 ∨ n = 836 ∨ n = 261 ∨ n = 320 ∨ n = 321 ∨ n = 322 ∨ n = 323 ∨ n = 384 ∨ n = 773 ∨ n = 832 ∨ n = 833 ∨ n = 834 ∨ n = 835
      · obtain ⟨i, x, h1, h2, h3, _⟩ := q13known f hw
        rw [h3]
        exact q13read_word f n p _ i x _ HL h1 h2 c w (fun W => q13shown_any f n W)
      · have HR := fun W => q13rest_any f n W hw
        rw [hk] at HR
        exact q13read_no f n p _ _ _ HL (fun W g => q13word_no n g W hw) c w HR
  · have hn : knIs n = false := by simpa using hk
    have e1 : rdIs n p = false := by unfold rdIs; rw [hn]; rfl
    have e2 : rdM f n p = 0#32 := by unfold rdM; rw [e1]; rfl
    rw [e1, e2]
    by_cases c : p < bits .and .i64 (n / 256) 3
    · exact q13read_up f n p _ HL c w
    · have hw : ¬ (n = 256 ∨ n = 768 ∨ n = 770 ∨ n = 771 ∨ n = 260 ∨ n = 772 ∨ n = 324 ∨ n = 836 ∨ n = 261 ∨ n = 320 ∨ n = 321 ∨ n = 322 ∨ n = 323 ∨ n = 384 ∨ n = 773 ∨ n = 832 ∨ n = 833 ∨ n = 834 ∨ n = 835) := fun h => hk (q13is h)
      have HR := fun W => q13rest_any f n W hw
      rw [hn, q13none f hn] at HR
      exact q13read_no f n p _ _ _ HL (fun W g => q13word_no n g W hw) c w HR

theorem write13_any (f : FileM) (n p : Int) (v : BitVec 32) (w : World) : Calls Try.prog 13 #[.agg (flC f).toArray, .int .i64 n, .int .i64 p, .int .u32 (U v)] w fun e w' => e = .returned (.tuple #[.agg (flC (wrM f n p v)).toArray, .bool (wrIs n p)]) ∧ Below w.heap.size w w' := by
  have HRD := fun W => read13_any f n p W
  by_cases hr : rdIs n p = true
  · have hk : knIs n = true := by
      have := hr
      unfold rdIs at this
      simp only [Bool.and_eq_true] at this
      exact this.1
    rw [hr] at HRD
    have HF := fun W => q13fixed_any n W
    rw [q13fix hk] at HF
    by_cases hc : n / 1024 % 4 = 3
    · have e1 : wrIs n p = false := by unfold wrIs; rw [hr]; simp [hc]
      have e2 : wrM f n p v = f := by unfold wrM; rw [e1]; rfl
      rw [decide_eq_true hc] at HF
      rw [e1, e2]
      exact q13write_fixed f n p _ v HRD HF w
    · have e1 : wrIs n p = true := by unfold wrIs; rw [hr]; simp [hc]
      have e2 : wrM f n p v = wrF f n v := by unfold wrM; rw [e1]; rfl
      rw [decide_eq_false hc] at HF
      rw [e1, e2]
      by_cases hw : n = 256 ∨ n = 768 ∨ n = 770 ∨ n = 771 ∨ n = 260 ∨ n = 772 ∨ n = 324 ∨ n = 836 ∨ n = 261 ∨ n = 320 ∨ n = 321 ∨ n = 322 ∨ n = 323 ∨ n = 384 ∨ n = 773 ∨ n = 832 ∨ n = 833 ∨ n = 834 ∨ n = 835
      · obtain ⟨i, x, h1, h2, _, h4⟩ := q13known f hw
        refine q13write_word f _ n p i _ v x _ _ HRD HF h1 (fun W => q13open_any f n W) (fun W => q13fit_any n v W) h2 (h4 v).symm ?_ ?_ w
        · rintro rfl; revert hw; decide
        · rintro rfl; revert hw; decide
      · by_cases h1 : n = 2816
        · subst h1
          rw [wrF_2816]
          exact q13write_2816 f p _ v HRD HF w
        · by_cases h2 : n = 2944
          · subst h2
            rw [wrF_2944]
            exact q13write_2944 f p _ v HRD HF w
          · have h3 : n = 769 := by
              clear HRD HF e1 e2 hr
              rcases q13nums hk with rfl | rfl | rfl | rfl | rfl | rfl | rfl | rfl | rfl | rfl | rfl | rfl | rfl | rfl | rfl | rfl | rfl | rfl | rfl | rfl | rfl | rfl | rfl | rfl | rfl | rfl | rfl | rfl <;> first | rfl | exact absurd (by decide) hw | exact absurd (by decide) hc | contradiction
            subst h3
            rw [wrF_769]
            exact q13write_none f 769 p _ v HRD HF (fun W g => q13word_no 769 g W hw) (by decide) (by decide) w
  · have hf : rdIs n p = false := by simpa using hr
    have e1 : wrIs n p = false := by unfold wrIs; rw [hf]; rfl
    have e2 : wrM f n p v = f := by unfold wrM; rw [e1]; rfl
    rw [hf] at HRD
    rw [e1, e2]
    exact q13write_off f n p _ v HRD w

end Go.Proofs.Ytedpeojgpnnddaa
