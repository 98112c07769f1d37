/- The document's writes (layer csr). -/
import Derived.Test.YtedpeojgpnnddaaCsrS
namespace Go.Proofs.Ytedpeojgpnnddaa
open Go.RowKit Bm

set_option maxHeartbeats 1000000 in
theorem r13wr_256 (f : FileM) (p : Int) (v : BitVec 32) (w : World) (h : rdIs 256 p = true) : Calls Try.prog 14 #[.agg (flC f).toArray, .int .i64 256, .int .i64 p, .int .u32 (U v)] w fun e w' => e = .returned (.tuple #[.agg (flC (wrF f 256 v)).toArray, .bool true]) ∧ Below w.heap.size w w' := by
  have HRD := Lib.hid (fun W => r13read_any f 256 p W)
  rw [h] at HRD
  generalize rdM f 256 p = q at *
  clear h

  have HSU := Lib.hid (fun W => r13su_256 f v W)
  obtain ⟨X, hX⟩ : ∃ X, X = wrF f 256 v := ⟨_, rfl⟩
  rw [← hX] at HSU
  rw [← hX]
  clear hX

  go_enter Try.func14, Try.ntmps14
  go_upto_region 1 with (fail)
  obtain ⟨W1, hW1⟩ : ∃ W, W = (w.alloc (.cells (flC f).toArray 25)).alloc (.cells (flC fl0).toArray 25) := ⟨_, rfl⟩
  have hB := below_two w (.cells (flC f).toArray 25) (.cells (flC fl0).toArray 25)
  have hA : At W1 w.heap.size 25 (flC f) := by rw [hW1]; exact (At.news w 25 (flC f)).alloc _
  have hZ : At W1 (w.heap.size + 1) 25 (flC fl0) := by rw [hW1]; exact At.alloc_new _ 25 (flC fl0) (by simp) rfl
  rw [← hW1] at hB
  first | rw [← hW1] | (change Code.wp _ _ _ _ ((w.alloc (.cells (flC f).toArray 25)).alloc (.cells (flC fl0).toArray 25)); rw [← hW1])
  have HB := Lib.hid hB
  have HA := Lib.hid hA
  have HZ := Lib.hid hZ
  clear hW1 hB hA hZ
  go_upto_region 2 with (first | (refine wpList_ldS (flC f) _ HA.out (by rfl) rfl rfl Try.underlying25 rfl r13fl_size rfl ?_) | (go_at_call 12; (with_reducible refine (HRD.out _).mono ?_); rintro e w6 ⟨rfl, hb⟩; have BL := Lib.hid hb; clear hb))
  have hA6 := HA.out.keep BL.out
  have hZ6 := HZ.out.keep BL.out
  have hB6 := HB.out.trans (BL.out.mono HB.out.size)
  have HA6 := Lib.hid hA6
  have HZ6 := Lib.hid hZ6
  have HB6 := Lib.hid hB6
  clear hA6 hZ6 hB6 HA HZ HB BL
  go_wp2_with (first | (refine wpList_ldS (flC f) _ HA6.out (by rfl) rfl rfl Try.underlying25 rfl r13fl_size rfl ?_) | (go_at_call 30; (with_reducible refine (HSU.out _).mono ?_); rintro e w7 ⟨rfl, hb⟩; have BL7 := Lib.hid hb; clear hb) | (refine wpList_stS (z := flC fl0) (flC X) _ _ (HZ6.out.keep BL7.out) rfl rfl rfl rfl r13fl_size rfl rfl (fl_one _) ?_; intro w3 hA3 hT3; have HR3 := Lib.hid hA3; have TR3 := Lib.hid hT3; clear hA3 hT3))
  have HB7 := Lib.hid (HB6.out.trans (BL7.out.mono HB6.out.size))
  exact bodyPost_ret (res_S2 (v := .bool true) Try.results14 Try.underlying25 r13fl_size rfl _ rfl rfl HR3.out) rfl ⟨rfl, HB7.out.trans (TR3.out.below (B := w.heap.size) (fun k hk => by unfold Just at hk; omega) HB7.out.size)⟩

set_option maxHeartbeats 1000000 in
theorem r13wr_260 (f : FileM) (p : Int) (v : BitVec 32) (w : World) (h : rdIs 260 p = true) : Calls Try.prog 14 #[.agg (flC f).toArray, .int .i64 260, .int .i64 p, .int .u32 (U v)] w fun e w' => e = .returned (.tuple #[.agg (flC (wrF f 260 v)).toArray, .bool true]) ∧ Below w.heap.size w w' := by
  have HRD := Lib.hid (fun W => r13read_any f 260 p W)
  rw [h] at HRD
  generalize rdM f 260 p = q at *
  clear h

  have HSU := Lib.hid (fun W => r13su_260 f v W)
  obtain ⟨X, hX⟩ : ∃ X, X = wrF f 260 v := ⟨_, rfl⟩
  rw [← hX] at HSU
  rw [← hX]
  clear hX

  go_enter Try.func14, Try.ntmps14
  go_upto_region 1 with (fail)
  obtain ⟨W1, hW1⟩ : ∃ W, W = (w.alloc (.cells (flC f).toArray 25)).alloc (.cells (flC fl0).toArray 25) := ⟨_, rfl⟩
  have hB := below_two w (.cells (flC f).toArray 25) (.cells (flC fl0).toArray 25)
  have hA : At W1 w.heap.size 25 (flC f) := by rw [hW1]; exact (At.news w 25 (flC f)).alloc _
  have hZ : At W1 (w.heap.size + 1) 25 (flC fl0) := by rw [hW1]; exact At.alloc_new _ 25 (flC fl0) (by simp) rfl
  rw [← hW1] at hB
  first | rw [← hW1] | (change Code.wp _ _ _ _ ((w.alloc (.cells (flC f).toArray 25)).alloc (.cells (flC fl0).toArray 25)); rw [← hW1])
  have HB := Lib.hid hB
  have HA := Lib.hid hA
  have HZ := Lib.hid hZ
  clear hW1 hB hA hZ
  go_upto_region 2 with (first | (refine wpList_ldS (flC f) _ HA.out (by rfl) rfl rfl Try.underlying25 rfl r13fl_size rfl ?_) | (go_at_call 12; (with_reducible refine (HRD.out _).mono ?_); rintro e w6 ⟨rfl, hb⟩; have BL := Lib.hid hb; clear hb))
  have hA6 := HA.out.keep BL.out
  have hZ6 := HZ.out.keep BL.out
  have hB6 := HB.out.trans (BL.out.mono HB.out.size)
  have HA6 := Lib.hid hA6
  have HZ6 := Lib.hid hZ6
  have HB6 := Lib.hid hB6
  clear hA6 hZ6 hB6 HA HZ HB BL
  go_wp2_with (first | (refine wpList_ldS (flC f) _ HA6.out (by rfl) rfl rfl Try.underlying25 rfl r13fl_size rfl ?_) | (go_at_call 30; (with_reducible refine (HSU.out _).mono ?_); rintro e w7 ⟨rfl, hb⟩; have BL7 := Lib.hid hb; clear hb) | (refine wpList_stS (z := flC fl0) (flC X) _ _ (HZ6.out.keep BL7.out) rfl rfl rfl rfl r13fl_size rfl rfl (fl_one _) ?_; intro w3 hA3 hT3; have HR3 := Lib.hid hA3; have TR3 := Lib.hid hT3; clear hA3 hT3))
  have HB7 := Lib.hid (HB6.out.trans (BL7.out.mono HB6.out.size))
  exact bodyPost_ret (res_S2 (v := .bool true) Try.results14 Try.underlying25 r13fl_size rfl _ rfl rfl HR3.out) rfl ⟨rfl, HB7.out.trans (TR3.out.below (B := w.heap.size) (fun k hk => by unfold Just at hk; omega) HB7.out.size)⟩

set_option maxHeartbeats 1000000 in
theorem r13wr_261 (f : FileM) (p : Int) (v : BitVec 32) (w : World) (h : rdIs 261 p = true) : Calls Try.prog 14 #[.agg (flC f).toArray, .int .i64 261, .int .i64 p, .int .u32 (U v)] w fun e w' => e = .returned (.tuple #[.agg (flC (wrF f 261 v)).toArray, .bool true]) ∧ Below w.heap.size w w' := by
  have HRD := Lib.hid (fun W => r13read_any f 261 p W)
  rw [h] at HRD
  generalize rdM f 261 p = q at *
  clear h

  have HSU := Lib.hid (fun W => r13su_261 f v W)
  obtain ⟨X, hX⟩ : ∃ X, X = wrF f 261 v := ⟨_, rfl⟩
  rw [← hX] at HSU
  rw [← hX]
  clear hX

  go_enter Try.func14, Try.ntmps14
  go_upto_region 1 with (fail)
  obtain ⟨W1, hW1⟩ : ∃ W, W = (w.alloc (.cells (flC f).toArray 25)).alloc (.cells (flC fl0).toArray 25) := ⟨_, rfl⟩
  have hB := below_two w (.cells (flC f).toArray 25) (.cells (flC fl0).toArray 25)
  have hA : At W1 w.heap.size 25 (flC f) := by rw [hW1]; exact (At.news w 25 (flC f)).alloc _
  have hZ : At W1 (w.heap.size + 1) 25 (flC fl0) := by rw [hW1]; exact At.alloc_new _ 25 (flC fl0) (by simp) rfl
  rw [← hW1] at hB
  first | rw [← hW1] | (change Code.wp _ _ _ _ ((w.alloc (.cells (flC f).toArray 25)).alloc (.cells (flC fl0).toArray 25)); rw [← hW1])
  have HB := Lib.hid hB
  have HA := Lib.hid hA
  have HZ := Lib.hid hZ
  clear hW1 hB hA hZ
  go_upto_region 2 with (first | (refine wpList_ldS (flC f) _ HA.out (by rfl) rfl rfl Try.underlying25 rfl r13fl_size rfl ?_) | (go_at_call 12; (with_reducible refine (HRD.out _).mono ?_); rintro e w6 ⟨rfl, hb⟩; have BL := Lib.hid hb; clear hb))
  have hA6 := HA.out.keep BL.out
  have hZ6 := HZ.out.keep BL.out
  have hB6 := HB.out.trans (BL.out.mono HB.out.size)
  have HA6 := Lib.hid hA6
  have HZ6 := Lib.hid hZ6
  have HB6 := Lib.hid hB6
  clear hA6 hZ6 hB6 HA HZ HB BL
  go_wp2_with (first | (refine wpList_ldS (flC f) _ HA6.out (by rfl) rfl rfl Try.underlying25 rfl r13fl_size rfl ?_) | (go_at_call 30; (with_reducible refine (HSU.out _).mono ?_); rintro e w7 ⟨rfl, hb⟩; have BL7 := Lib.hid hb; clear hb) | (refine wpList_stS (z := flC fl0) (flC X) _ _ (HZ6.out.keep BL7.out) rfl rfl rfl rfl r13fl_size rfl rfl (fl_one _) ?_; intro w3 hA3 hT3; have HR3 := Lib.hid hA3; have TR3 := Lib.hid hT3; clear hA3 hT3))
  have HB7 := Lib.hid (HB6.out.trans (BL7.out.mono HB6.out.size))
  exact bodyPost_ret (res_S2 (v := .bool true) Try.results14 Try.underlying25 r13fl_size rfl _ rfl rfl HR3.out) rfl ⟨rfl, HB7.out.trans (TR3.out.below (B := w.heap.size) (fun k hk => by unfold Just at hk; omega) HB7.out.size)⟩

set_option maxHeartbeats 1000000 in
theorem r13wr_320 (f : FileM) (p : Int) (v : BitVec 32) (w : World) (h : rdIs 320 p = true) : Calls Try.prog 14 #[.agg (flC f).toArray, .int .i64 320, .int .i64 p, .int .u32 (U v)] w fun e w' => e = .returned (.tuple #[.agg (flC (wrF f 320 v)).toArray, .bool true]) ∧ Below w.heap.size w w' := by
  have HRD := Lib.hid (fun W => r13read_any f 320 p W)
  rw [h] at HRD
  generalize rdM f 320 p = q at *
  clear h

  have HSU := Lib.hid (fun W => r13su_320 f v W)
  obtain ⟨X, hX⟩ : ∃ X, X = wrF f 320 v := ⟨_, rfl⟩
  rw [← hX] at HSU
  rw [← hX]
  clear hX

  go_enter Try.func14, Try.ntmps14
  go_upto_region 1 with (fail)
  obtain ⟨W1, hW1⟩ : ∃ W, W = (w.alloc (.cells (flC f).toArray 25)).alloc (.cells (flC fl0).toArray 25) := ⟨_, rfl⟩
  have hB := below_two w (.cells (flC f).toArray 25) (.cells (flC fl0).toArray 25)
  have hA : At W1 w.heap.size 25 (flC f) := by rw [hW1]; exact (At.news w 25 (flC f)).alloc _
  have hZ : At W1 (w.heap.size + 1) 25 (flC fl0) := by rw [hW1]; exact At.alloc_new _ 25 (flC fl0) (by simp) rfl
  rw [← hW1] at hB
  first | rw [← hW1] | (change Code.wp _ _ _ _ ((w.alloc (.cells (flC f).toArray 25)).alloc (.cells (flC fl0).toArray 25)); rw [← hW1])
  have HB := Lib.hid hB
  have HA := Lib.hid hA
  have HZ := Lib.hid hZ
  clear hW1 hB hA hZ
  go_upto_region 2 with (first | (refine wpList_ldS (flC f) _ HA.out (by rfl) rfl rfl Try.underlying25 rfl r13fl_size rfl ?_) | (go_at_call 12; (with_reducible refine (HRD.out _).mono ?_); rintro e w6 ⟨rfl, hb⟩; have BL := Lib.hid hb; clear hb))
  have hA6 := HA.out.keep BL.out
  have hZ6 := HZ.out.keep BL.out
  have hB6 := HB.out.trans (BL.out.mono HB.out.size)
  have HA6 := Lib.hid hA6
  have HZ6 := Lib.hid hZ6
  have HB6 := Lib.hid hB6
  clear hA6 hZ6 hB6 HA HZ HB BL
  go_wp2_with (first | (refine wpList_ldS (flC f) _ HA6.out (by rfl) rfl rfl Try.underlying25 rfl r13fl_size rfl ?_) | (go_at_call 30; (with_reducible refine (HSU.out _).mono ?_); rintro e w7 ⟨rfl, hb⟩; have BL7 := Lib.hid hb; clear hb) | (refine wpList_stS (z := flC fl0) (flC X) _ _ (HZ6.out.keep BL7.out) rfl rfl rfl rfl r13fl_size rfl rfl (fl_one _) ?_; intro w3 hA3 hT3; have HR3 := Lib.hid hA3; have TR3 := Lib.hid hT3; clear hA3 hT3))
  have HB7 := Lib.hid (HB6.out.trans (BL7.out.mono HB6.out.size))
  exact bodyPost_ret (res_S2 (v := .bool true) Try.results14 Try.underlying25 r13fl_size rfl _ rfl rfl HR3.out) rfl ⟨rfl, HB7.out.trans (TR3.out.below (B := w.heap.size) (fun k hk => by unfold Just at hk; omega) HB7.out.size)⟩

set_option maxHeartbeats 1000000 in
theorem r13wr_321 (f : FileM) (p : Int) (v : BitVec 32) (w : World) (h : rdIs 321 p = true) : Calls Try.prog 14 #[.agg (flC f).toArray, .int .i64 321, .int .i64 p, .int .u32 (U v)] w fun e w' => e = .returned (.tuple #[.agg (flC (wrF f 321 v)).toArray, .bool true]) ∧ Below w.heap.size w w' := by
  have HRD := Lib.hid (fun W => r13read_any f 321 p W)
  rw [h] at HRD
  generalize rdM f 321 p = q at *
  clear h

  have HSU := Lib.hid (fun W => r13su_321 f v W)
  obtain ⟨X, hX⟩ : ∃ X, X = wrF f 321 v := ⟨_, rfl⟩
  rw [← hX] at HSU
  rw [← hX]
  clear hX

  go_enter Try.func14, Try.ntmps14
  go_upto_region 1 with (fail)
  obtain ⟨W1, hW1⟩ : ∃ W, W = (w.alloc (.cells (flC f).toArray 25)).alloc (.cells (flC fl0).toArray 25) := ⟨_, rfl⟩
  have hB := below_two w (.cells (flC f).toArray 25) (.cells (flC fl0).toArray 25)
  have hA : At W1 w.heap.size 25 (flC f) := by rw [hW1]; exact (At.news w 25 (flC f)).alloc _
  have hZ : At W1 (w.heap.size + 1) 25 (flC fl0) := by rw [hW1]; exact At.alloc_new _ 25 (flC fl0) (by simp) rfl
  rw [← hW1] at hB
  first | rw [← hW1] | (change Code.wp _ _ _ _ ((w.alloc (.cells (flC f).toArray 25)).alloc (.cells (flC fl0).toArray 25)); rw [← hW1])
  have HB := Lib.hid hB
  have HA := Lib.hid hA
  have HZ := Lib.hid hZ
  clear hW1 hB hA hZ
  go_upto_region 2 with (first | (refine wpList_ldS (flC f) _ HA.out (by rfl) rfl rfl Try.underlying25 rfl r13fl_size rfl ?_) | (go_at_call 12; (with_reducible refine (HRD.out _).mono ?_); rintro e w6 ⟨rfl, hb⟩; have BL := Lib.hid hb; clear hb))
  have hA6 := HA.out.keep BL.out
  have hZ6 := HZ.out.keep BL.out
  have hB6 := HB.out.trans (BL.out.mono HB.out.size)
  have HA6 := Lib.hid hA6
  have HZ6 := Lib.hid hZ6
  have HB6 := Lib.hid hB6
  clear hA6 hZ6 hB6 HA HZ HB BL
  go_wp2_with (first | (refine wpList_ldS (flC f) _ HA6.out (by rfl) rfl rfl Try.underlying25 rfl r13fl_size rfl ?_) | (go_at_call 30; (with_reducible refine (HSU.out _).mono ?_); rintro e w7 ⟨rfl, hb⟩; have BL7 := Lib.hid hb; clear hb) | (refine wpList_stS (z := flC fl0) (flC X) _ _ (HZ6.out.keep BL7.out) rfl rfl rfl rfl r13fl_size rfl rfl (fl_one _) ?_; intro w3 hA3 hT3; have HR3 := Lib.hid hA3; have TR3 := Lib.hid hT3; clear hA3 hT3))
  have HB7 := Lib.hid (HB6.out.trans (BL7.out.mono HB6.out.size))
  exact bodyPost_ret (res_S2 (v := .bool true) Try.results14 Try.underlying25 r13fl_size rfl _ rfl rfl HR3.out) rfl ⟨rfl, HB7.out.trans (TR3.out.below (B := w.heap.size) (fun k hk => by unfold Just at hk; omega) HB7.out.size)⟩

set_option maxHeartbeats 1000000 in
theorem r13wr_322 (f : FileM) (p : Int) (v : BitVec 32) (w : World) (h : rdIs 322 p = true) : Calls Try.prog 14 #[.agg (flC f).toArray, .int .i64 322, .int .i64 p, .int .u32 (U v)] w fun e w' => e = .returned (.tuple #[.agg (flC (wrF f 322 v)).toArray, .bool true]) ∧ Below w.heap.size w w' := by
  have HRD := Lib.hid (fun W => r13read_any f 322 p W)
  rw [h] at HRD
  generalize rdM f 322 p = q at *
  clear h

  have HSU := Lib.hid (fun W => r13su_322 f v W)
  obtain ⟨X, hX⟩ : ∃ X, X = wrF f 322 v := ⟨_, rfl⟩
  rw [← hX] at HSU
  rw [← hX]
  clear hX

  go_enter Try.func14, Try.ntmps14
  go_upto_region 1 with (fail)
  obtain ⟨W1, hW1⟩ : ∃ W, W = (w.alloc (.cells (flC f).toArray 25)).alloc (.cells (flC fl0).toArray 25) := ⟨_, rfl⟩
  have hB := below_two w (.cells (flC f).toArray 25) (.cells (flC fl0).toArray 25)
  have hA : At W1 w.heap.size 25 (flC f) := by rw [hW1]; exact (At.news w 25 (flC f)).alloc _
  have hZ : At W1 (w.heap.size + 1) 25 (flC fl0) := by rw [hW1]; exact At.alloc_new _ 25 (flC fl0) (by simp) rfl
  rw [← hW1] at hB
  first | rw [← hW1] | (change Code.wp _ _ _ _ ((w.alloc (.cells (flC f).toArray 25)).alloc (.cells (flC fl0).toArray 25)); rw [← hW1])
  have HB := Lib.hid hB
  have HA := Lib.hid hA
  have HZ := Lib.hid hZ
  clear hW1 hB hA hZ
  go_upto_region 2 with (first | (refine wpList_ldS (flC f) _ HA.out (by rfl) rfl rfl Try.underlying25 rfl r13fl_size rfl ?_) | (go_at_call 12; (with_reducible refine (HRD.out _).mono ?_); rintro e w6 ⟨rfl, hb⟩; have BL := Lib.hid hb; clear hb))
  have hA6 := HA.out.keep BL.out
  have hZ6 := HZ.out.keep BL.out
  have hB6 := HB.out.trans (BL.out.mono HB.out.size)
  have HA6 := Lib.hid hA6
  have HZ6 := Lib.hid hZ6
  have HB6 := Lib.hid hB6
  clear hA6 hZ6 hB6 HA HZ HB BL
  go_wp2_with (first | (refine wpList_ldS (flC f) _ HA6.out (by rfl) rfl rfl Try.underlying25 rfl r13fl_size rfl ?_) | (go_at_call 30; (with_reducible refine (HSU.out _).mono ?_); rintro e w7 ⟨rfl, hb⟩; have BL7 := Lib.hid hb; clear hb) | (refine wpList_stS (z := flC fl0) (flC X) _ _ (HZ6.out.keep BL7.out) rfl rfl rfl rfl r13fl_size rfl rfl (fl_one _) ?_; intro w3 hA3 hT3; have HR3 := Lib.hid hA3; have TR3 := Lib.hid hT3; clear hA3 hT3))
  have HB7 := Lib.hid (HB6.out.trans (BL7.out.mono HB6.out.size))
  exact bodyPost_ret (res_S2 (v := .bool true) Try.results14 Try.underlying25 r13fl_size rfl _ rfl rfl HR3.out) rfl ⟨rfl, HB7.out.trans (TR3.out.below (B := w.heap.size) (fun k hk => by unfold Just at hk; omega) HB7.out.size)⟩

set_option maxHeartbeats 1000000 in
theorem r13wr_323 (f : FileM) (p : Int) (v : BitVec 32) (w : World) (h : rdIs 323 p = true) : Calls Try.prog 14 #[.agg (flC f).toArray, .int .i64 323, .int .i64 p, .int .u32 (U v)] w fun e w' => e = .returned (.tuple #[.agg (flC (wrF f 323 v)).toArray, .bool true]) ∧ Below w.heap.size w w' := by
  have HRD := Lib.hid (fun W => r13read_any f 323 p W)
  rw [h] at HRD
  generalize rdM f 323 p = q at *
  clear h

  have HSU := Lib.hid (fun W => r13su_323 f v W)
  obtain ⟨X, hX⟩ : ∃ X, X = wrF f 323 v := ⟨_, rfl⟩
  rw [← hX] at HSU
  rw [← hX]
  clear hX

  go_enter Try.func14, Try.ntmps14
  go_upto_region 1 with (fail)
  obtain ⟨W1, hW1⟩ : ∃ W, W = (w.alloc (.cells (flC f).toArray 25)).alloc (.cells (flC fl0).toArray 25) := ⟨_, rfl⟩
  have hB := below_two w (.cells (flC f).toArray 25) (.cells (flC fl0).toArray 25)
  have hA : At W1 w.heap.size 25 (flC f) := by rw [hW1]; exact (At.news w 25 (flC f)).alloc _
  have hZ : At W1 (w.heap.size + 1) 25 (flC fl0) := by rw [hW1]; exact At.alloc_new _ 25 (flC fl0) (by simp) rfl
  rw [← hW1] at hB
  first | rw [← hW1] | (change Code.wp _ _ _ _ ((w.alloc (.cells (flC f).toArray 25)).alloc (.cells (flC fl0).toArray 25)); rw [← hW1])
  have HB := Lib.hid hB
  have HA := Lib.hid hA
  have HZ := Lib.hid hZ
  clear hW1 hB hA hZ
  go_upto_region 2 with (first | (refine wpList_ldS (flC f) _ HA.out (by rfl) rfl rfl Try.underlying25 rfl r13fl_size rfl ?_) | (go_at_call 12; (with_reducible refine (HRD.out _).mono ?_); rintro e w6 ⟨rfl, hb⟩; have BL := Lib.hid hb; clear hb))
  have hA6 := HA.out.keep BL.out
  have hZ6 := HZ.out.keep BL.out
  have hB6 := HB.out.trans (BL.out.mono HB.out.size)
  have HA6 := Lib.hid hA6
  have HZ6 := Lib.hid hZ6
  have HB6 := Lib.hid hB6
  clear hA6 hZ6 hB6 HA HZ HB BL
  go_wp2_with (first | (refine wpList_ldS (flC f) _ HA6.out (by rfl) rfl rfl Try.underlying25 rfl r13fl_size rfl ?_) | (go_at_call 30; (with_reducible refine (HSU.out _).mono ?_); rintro e w7 ⟨rfl, hb⟩; have BL7 := Lib.hid hb; clear hb) | (refine wpList_stS (z := flC fl0) (flC X) _ _ (HZ6.out.keep BL7.out) rfl rfl rfl rfl r13fl_size rfl rfl (fl_one _) ?_; intro w3 hA3 hT3; have HR3 := Lib.hid hA3; have TR3 := Lib.hid hT3; clear hA3 hT3))
  have HB7 := Lib.hid (HB6.out.trans (BL7.out.mono HB6.out.size))
  exact bodyPost_ret (res_S2 (v := .bool true) Try.results14 Try.underlying25 r13fl_size rfl _ rfl rfl HR3.out) rfl ⟨rfl, HB7.out.trans (TR3.out.below (B := w.heap.size) (fun k hk => by unfold Just at hk; omega) HB7.out.size)⟩

set_option maxHeartbeats 1000000 in
theorem r13wr_324 (f : FileM) (p : Int) (v : BitVec 32) (w : World) (h : rdIs 324 p = true) : Calls Try.prog 14 #[.agg (flC f).toArray, .int .i64 324, .int .i64 p, .int .u32 (U v)] w fun e w' => e = .returned (.tuple #[.agg (flC (wrF f 324 v)).toArray, .bool true]) ∧ Below w.heap.size w w' := by
  have HRD := Lib.hid (fun W => r13read_any f 324 p W)
  rw [h] at HRD
  generalize rdM f 324 p = q at *
  clear h

  have HSU := Lib.hid (fun W => r13su_324 f v W)
  obtain ⟨X, hX⟩ : ∃ X, X = wrF f 324 v := ⟨_, rfl⟩
  rw [← hX] at HSU
  rw [← hX]
  clear hX

  go_enter Try.func14, Try.ntmps14
  go_upto_region 1 with (fail)
  obtain ⟨W1, hW1⟩ : ∃ W, W = (w.alloc (.cells (flC f).toArray 25)).alloc (.cells (flC fl0).toArray 25) := ⟨_, rfl⟩
  have hB := below_two w (.cells (flC f).toArray 25) (.cells (flC fl0).toArray 25)
  have hA : At W1 w.heap.size 25 (flC f) := by rw [hW1]; exact (At.news w 25 (flC f)).alloc _
  have hZ : At W1 (w.heap.size + 1) 25 (flC fl0) := by rw [hW1]; exact At.alloc_new _ 25 (flC fl0) (by simp) rfl
  rw [← hW1] at hB
  first | rw [← hW1] | (change Code.wp _ _ _ _ ((w.alloc (.cells (flC f).toArray 25)).alloc (.cells (flC fl0).toArray 25)); rw [← hW1])
  have HB := Lib.hid hB
  have HA := Lib.hid hA
  have HZ := Lib.hid hZ
  clear hW1 hB hA hZ
  go_upto_region 2 with (first | (refine wpList_ldS (flC f) _ HA.out (by rfl) rfl rfl Try.underlying25 rfl r13fl_size rfl ?_) | (go_at_call 12; (with_reducible refine (HRD.out _).mono ?_); rintro e w6 ⟨rfl, hb⟩; have BL := Lib.hid hb; clear hb))
  have hA6 := HA.out.keep BL.out
  have hZ6 := HZ.out.keep BL.out
  have hB6 := HB.out.trans (BL.out.mono HB.out.size)
  have HA6 := Lib.hid hA6
  have HZ6 := Lib.hid hZ6
  have HB6 := Lib.hid hB6
  clear hA6 hZ6 hB6 HA HZ HB BL
  go_wp2_with (first | (refine wpList_ldS (flC f) _ HA6.out (by rfl) rfl rfl Try.underlying25 rfl r13fl_size rfl ?_) | (go_at_call 30; (with_reducible refine (HSU.out _).mono ?_); rintro e w7 ⟨rfl, hb⟩; have BL7 := Lib.hid hb; clear hb) | (refine wpList_stS (z := flC fl0) (flC X) _ _ (HZ6.out.keep BL7.out) rfl rfl rfl rfl r13fl_size rfl rfl (fl_one _) ?_; intro w3 hA3 hT3; have HR3 := Lib.hid hA3; have TR3 := Lib.hid hT3; clear hA3 hT3))
  have HB7 := Lib.hid (HB6.out.trans (BL7.out.mono HB6.out.size))
  exact bodyPost_ret (res_S2 (v := .bool true) Try.results14 Try.underlying25 r13fl_size rfl _ rfl rfl HR3.out) rfl ⟨rfl, HB7.out.trans (TR3.out.below (B := w.heap.size) (fun k hk => by unfold Just at hk; omega) HB7.out.size)⟩

set_option maxHeartbeats 1000000 in
theorem r13wr_384 (f : FileM) (p : Int) (v : BitVec 32) (w : World) (h : rdIs 384 p = true) : Calls Try.prog 14 #[.agg (flC f).toArray, .int .i64 384, .int .i64 p, .int .u32 (U v)] w fun e w' => e = .returned (.tuple #[.agg (flC (wrF f 384 v)).toArray, .bool true]) ∧ Below w.heap.size w w' := by
  have HRD := Lib.hid (fun W => r13read_any f 384 p W)
  rw [h] at HRD
  generalize rdM f 384 p = q at *
  clear h

  have HSU := Lib.hid (fun W => r13su_384 f v W)
  obtain ⟨X, hX⟩ : ∃ X, X = wrF f 384 v := ⟨_, rfl⟩
  rw [← hX] at HSU
  rw [← hX]
  clear hX

  go_enter Try.func14, Try.ntmps14
  go_upto_region 1 with (fail)
  obtain ⟨W1, hW1⟩ : ∃ W, W = (w.alloc (.cells (flC f).toArray 25)).alloc (.cells (flC fl0).toArray 25) := ⟨_, rfl⟩
  have hB := below_two w (.cells (flC f).toArray 25) (.cells (flC fl0).toArray 25)
  have hA : At W1 w.heap.size 25 (flC f) := by rw [hW1]; exact (At.news w 25 (flC f)).alloc _
  have hZ : At W1 (w.heap.size + 1) 25 (flC fl0) := by rw [hW1]; exact At.alloc_new _ 25 (flC fl0) (by simp) rfl
  rw [← hW1] at hB
  first | rw [← hW1] | (change Code.wp _ _ _ _ ((w.alloc (.cells (flC f).toArray 25)).alloc (.cells (flC fl0).toArray 25)); rw [← hW1])
  have HB := Lib.hid hB
  have HA := Lib.hid hA
  have HZ := Lib.hid hZ
  clear hW1 hB hA hZ
  go_upto_region 2 with (first | (refine wpList_ldS (flC f) _ HA.out (by rfl) rfl rfl Try.underlying25 rfl r13fl_size rfl ?_) | (go_at_call 12; (with_reducible refine (HRD.out _).mono ?_); rintro e w6 ⟨rfl, hb⟩; have BL := Lib.hid hb; clear hb))
  have hA6 := HA.out.keep BL.out
  have hZ6 := HZ.out.keep BL.out
  have hB6 := HB.out.trans (BL.out.mono HB.out.size)
  have HA6 := Lib.hid hA6
  have HZ6 := Lib.hid hZ6
  have HB6 := Lib.hid hB6
  clear hA6 hZ6 hB6 HA HZ HB BL
  go_wp2_with (first | (refine wpList_ldS (flC f) _ HA6.out (by rfl) rfl rfl Try.underlying25 rfl r13fl_size rfl ?_) | (go_at_call 30; (with_reducible refine (HSU.out _).mono ?_); rintro e w7 ⟨rfl, hb⟩; have BL7 := Lib.hid hb; clear hb) | (refine wpList_stS (z := flC fl0) (flC X) _ _ (HZ6.out.keep BL7.out) rfl rfl rfl rfl r13fl_size rfl rfl (fl_one _) ?_; intro w3 hA3 hT3; have HR3 := Lib.hid hA3; have TR3 := Lib.hid hT3; clear hA3 hT3))
  have HB7 := Lib.hid (HB6.out.trans (BL7.out.mono HB6.out.size))
  exact bodyPost_ret (res_S2 (v := .bool true) Try.results14 Try.underlying25 r13fl_size rfl _ rfl rfl HR3.out) rfl ⟨rfl, HB7.out.trans (TR3.out.below (B := w.heap.size) (fun k hk => by unfold Just at hk; omega) HB7.out.size)⟩

set_option maxHeartbeats 1000000 in
theorem r13wr_768 (f : FileM) (p : Int) (v : BitVec 32) (w : World) (h : rdIs 768 p = true) : Calls Try.prog 14 #[.agg (flC f).toArray, .int .i64 768, .int .i64 p, .int .u32 (U v)] w fun e w' => e = .returned (.tuple #[.agg (flC (wrF f 768 v)).toArray, .bool true]) ∧ Below w.heap.size w w' := by
  have HRD := Lib.hid (fun W => r13read_any f 768 p W)
  rw [h] at HRD
  generalize rdM f 768 p = q at *
  clear h

  have HSU := Lib.hid (fun W => r13su_no ({ f with st := maskB f.st (stV v) 924074#32 }) 768 v W (by decide))
  rw [wrF_768]
  have HM : Hid (∀ W, Calls Try.prog 28 #[.int .u32 (U f.st), .int .u32 (U v)] W fun e w' => e = .returned (.int .u32 (U (maskB f.st (stV v) 924074#32))) ∧ w' = W) := Lib.hid (fun W => r13status_any f.st v W)
  go_enter Try.func14, Try.ntmps14
  go_upto_region 1 with (fail)
  obtain ⟨W1, hW1⟩ : ∃ W, W = (w.alloc (.cells (flC f).toArray 25)).alloc (.cells (flC fl0).toArray 25) := ⟨_, rfl⟩
  have hB := below_two w (.cells (flC f).toArray 25) (.cells (flC fl0).toArray 25)
  have hA : At W1 w.heap.size 25 (flC f) := by rw [hW1]; exact (At.news w 25 (flC f)).alloc _
  have hZ : At W1 (w.heap.size + 1) 25 (flC fl0) := by rw [hW1]; exact At.alloc_new _ 25 (flC fl0) (by simp) rfl
  rw [← hW1] at hB
  first | rw [← hW1] | (change Code.wp _ _ _ _ ((w.alloc (.cells (flC f).toArray 25)).alloc (.cells (flC fl0).toArray 25)); rw [← hW1])
  have HB := Lib.hid hB
  have HA := Lib.hid hA
  have HZ := Lib.hid hZ
  clear hW1 hB hA hZ
  go_upto_region 2 with (first | (refine wpList_ldS (flC f) _ HA.out (by rfl) rfl rfl Try.underlying25 rfl r13fl_size rfl ?_) | (go_at_call 12; (with_reducible refine (HRD.out _).mono ?_); rintro e w6 ⟨rfl, hb⟩; have BL := Lib.hid hb; clear hb))
  have hA6 := HA.out.keep BL.out
  have hZ6 := HZ.out.keep BL.out
  have hB6 := HB.out.trans (BL.out.mono HB.out.size)
  have HA6 := Lib.hid hA6
  have HZ6 := Lib.hid hZ6
  have HB6 := Lib.hid hB6
  clear hA6 hZ6 hB6 HA HZ HB BL
  have c_st : w6.cell? ⟨w.heap.size, 0, none⟩ = some (.int .u32 (U f.st)) := HA6.out.cell 0
  have f_0 : w6.frozen? ⟨w.heap.size, 0, none⟩ = false := HA6.out.frozen 0
  go_upto_region 29 with (first | (go_at_call 28; (with_reducible refine (HM.out _).mono ?_); rintro e w5 ⟨rfl, hq⟩; replace hq := hq.symm; subst hq))
  obtain ⟨W2, hW2⟩ : ∃ W, W = w6.setCell ⟨w.heap.size, 0, none⟩ (.int .u32 (U (maskB f.st (stV v) 924074#32))) := ⟨_, rfl⟩
  have hA2 : At W2 w.heap.size 25 (flC { f with st := maskB f.st (stV v) 924074#32 }) := by rw [hW2]; exact (HA6.out.put 0 (.int .u32 (U (maskB f.st (stV v) 924074#32)))).as rfl
  have hZ2 : At W2 (w.heap.size + 1) 25 (flC fl0) := by rw [hW2]; exact HZ6.out.far (by simp) _
  have hB2 : Below w.heap.size w W2 := by rw [hW2]; exact HB6.out.setCell (Nat.le_refl _) _
  first | rw [← hW2] | (change Code.wp _ _ _ _ (w6.setCell ⟨w.heap.size, 0, none⟩ (.int .u32 (U (maskB f.st (stV v) 924074#32)))); rw [← hW2])
  have HA2 := Lib.hid hA2
  have HZ2 := Lib.hid hZ2
  have HB2 := Lib.hid hB2
  clear hW2 hA2 hZ2 hB2
  go_wp2_with (first | (refine wpList_ldS (flC { f with st := maskB f.st (stV v) 924074#32 }) _ HA2.out (by rfl) rfl rfl Try.underlying25 rfl r13fl_size rfl ?_) | (go_at_call 30; (with_reducible refine (HSU.out _).mono ?_); rintro e w7 ⟨rfl, hb⟩; have BL7 := Lib.hid hb; clear hb) | (refine wpList_stS (z := flC fl0) (flC { f with st := maskB f.st (stV v) 924074#32 }) _ _ (HZ2.out.keep BL7.out) rfl rfl rfl rfl r13fl_size rfl rfl (fl_one _) ?_; intro w3 hA3 hT3; have HR3 := Lib.hid hA3; have TR3 := Lib.hid hT3; clear hA3 hT3))
  have HB7 := Lib.hid (HB2.out.trans (BL7.out.mono HB2.out.size))
  exact bodyPost_ret (res_S2 (v := .bool true) Try.results14 Try.underlying25 r13fl_size rfl _ rfl rfl HR3.out) rfl ⟨rfl, HB7.out.trans (TR3.out.below (B := w.heap.size) (fun k hk => by unfold Just at hk; omega) HB7.out.size)⟩

set_option maxHeartbeats 1000000 in
theorem r13wr_769 (f : FileM) (p : Int) (v : BitVec 32) (w : World) (h : rdIs 769 p = true) : Calls Try.prog 14 #[.agg (flC f).toArray, .int .i64 769, .int .i64 p, .int .u32 (U v)] w fun e w' => e = .returned (.tuple #[.agg (flC (wrF f 769 v)).toArray, .bool true]) ∧ Below w.heap.size w w' := by
  have HRD := Lib.hid (fun W => r13read_any f 769 p W)
  rw [h] at HRD
  generalize rdM f 769 p = q at *
  clear h

  have HSU := Lib.hid (fun W => r13su_no f 769 v W (by decide))
  rw [wrF_769]

  go_enter Try.func14, Try.ntmps14
  go_upto_region 1 with (fail)
  obtain ⟨W1, hW1⟩ : ∃ W, W = (w.alloc (.cells (flC f).toArray 25)).alloc (.cells (flC fl0).toArray 25) := ⟨_, rfl⟩
  have hB := below_two w (.cells (flC f).toArray 25) (.cells (flC fl0).toArray 25)
  have hA : At W1 w.heap.size 25 (flC f) := by rw [hW1]; exact (At.news w 25 (flC f)).alloc _
  have hZ : At W1 (w.heap.size + 1) 25 (flC fl0) := by rw [hW1]; exact At.alloc_new _ 25 (flC fl0) (by simp) rfl
  rw [← hW1] at hB
  first | rw [← hW1] | (change Code.wp _ _ _ _ ((w.alloc (.cells (flC f).toArray 25)).alloc (.cells (flC fl0).toArray 25)); rw [← hW1])
  have HB := Lib.hid hB
  have HA := Lib.hid hA
  have HZ := Lib.hid hZ
  clear hW1 hB hA hZ
  go_upto_region 2 with (first | (refine wpList_ldS (flC f) _ HA.out (by rfl) rfl rfl Try.underlying25 rfl r13fl_size rfl ?_) | (go_at_call 12; (with_reducible refine (HRD.out _).mono ?_); rintro e w6 ⟨rfl, hb⟩; have BL := Lib.hid hb; clear hb))
  have hA6 := HA.out.keep BL.out
  have hZ6 := HZ.out.keep BL.out
  have hB6 := HB.out.trans (BL.out.mono HB.out.size)
  have HA6 := Lib.hid hA6
  have HZ6 := Lib.hid hZ6
  have HB6 := Lib.hid hB6
  clear hA6 hZ6 hB6 HA HZ HB BL
  go_wp2_with (first | (refine wpList_ldS (flC f) _ HA6.out (by rfl) rfl rfl Try.underlying25 rfl r13fl_size rfl ?_) | (go_at_call 30; (with_reducible refine (HSU.out _).mono ?_); rintro e w7 ⟨rfl, hb⟩; have BL7 := Lib.hid hb; clear hb) | (refine wpList_stS (z := flC fl0) (flC f) _ _ (HZ6.out.keep BL7.out) rfl rfl rfl rfl r13fl_size rfl rfl (fl_one _) ?_; intro w3 hA3 hT3; have HR3 := Lib.hid hA3; have TR3 := Lib.hid hT3; clear hA3 hT3))
  have HB7 := Lib.hid (HB6.out.trans (BL7.out.mono HB6.out.size))
  exact bodyPost_ret (res_S2 (v := .bool true) Try.results14 Try.underlying25 r13fl_size rfl _ rfl rfl HR3.out) rfl ⟨rfl, HB7.out.trans (TR3.out.below (B := w.heap.size) (fun k hk => by unfold Just at hk; omega) HB7.out.size)⟩

set_option maxHeartbeats 1000000 in
theorem r13wr_770 (f : FileM) (p : Int) (v : BitVec 32) (w : World) (h : rdIs 770 p = true) : Calls Try.prog 14 #[.agg (flC f).toArray, .int .i64 770, .int .i64 p, .int .u32 (U v)] w fun e w' => e = .returned (.tuple #[.agg (flC (wrF f 770 v)).toArray, .bool true]) ∧ Below w.heap.size w w' := by
  have HRD := Lib.hid (fun W => r13read_any f 770 p W)
  rw [h] at HRD
  generalize rdM f 770 p = q at *
  clear h

  have HSU := Lib.hid (fun W => r13su_no ({ f with md := maskB f.md v 46079#32 }) 770 v W (by decide))
  rw [wrF_770]
  have HM : Hid (∀ W, Calls Try.prog 29 #[.int .u32 (U f.md), .int .u32 (U v), .int .u32 (46079)] W fun e w' => e = .returned (.int .u32 (U (maskB f.md v 46079#32))) ∧ w' = W) := Lib.hid (fun W => r13mask_any f.md v 46079#32 W)
  go_enter Try.func14, Try.ntmps14
  go_upto_region 1 with (fail)
  obtain ⟨W1, hW1⟩ : ∃ W, W = (w.alloc (.cells (flC f).toArray 25)).alloc (.cells (flC fl0).toArray 25) := ⟨_, rfl⟩
  have hB := below_two w (.cells (flC f).toArray 25) (.cells (flC fl0).toArray 25)
  have hA : At W1 w.heap.size 25 (flC f) := by rw [hW1]; exact (At.news w 25 (flC f)).alloc _
  have hZ : At W1 (w.heap.size + 1) 25 (flC fl0) := by rw [hW1]; exact At.alloc_new _ 25 (flC fl0) (by simp) rfl
  rw [← hW1] at hB
  first | rw [← hW1] | (change Code.wp _ _ _ _ ((w.alloc (.cells (flC f).toArray 25)).alloc (.cells (flC fl0).toArray 25)); rw [← hW1])
  have HB := Lib.hid hB
  have HA := Lib.hid hA
  have HZ := Lib.hid hZ
  clear hW1 hB hA hZ
  go_upto_region 2 with (first | (refine wpList_ldS (flC f) _ HA.out (by rfl) rfl rfl Try.underlying25 rfl r13fl_size rfl ?_) | (go_at_call 12; (with_reducible refine (HRD.out _).mono ?_); rintro e w6 ⟨rfl, hb⟩; have BL := Lib.hid hb; clear hb))
  have hA6 := HA.out.keep BL.out
  have hZ6 := HZ.out.keep BL.out
  have hB6 := HB.out.trans (BL.out.mono HB.out.size)
  have HA6 := Lib.hid hA6
  have HZ6 := Lib.hid hZ6
  have HB6 := Lib.hid hB6
  clear hA6 hZ6 hB6 HA HZ HB BL
  have c_md : w6.cell? ⟨w.heap.size, 1, none⟩ = some (.int .u32 (U f.md)) := HA6.out.cell 1
  have f_1 : w6.frozen? ⟨w.heap.size, 1, none⟩ = false := HA6.out.frozen 1
  go_upto_region 29 with (first | (go_at_call 29; (with_reducible refine (HM.out _).mono ?_); rintro e w5 ⟨rfl, hq⟩; replace hq := hq.symm; subst hq))
  obtain ⟨W2, hW2⟩ : ∃ W, W = w6.setCell ⟨w.heap.size, 1, none⟩ (.int .u32 (U (maskB f.md v 46079#32))) := ⟨_, rfl⟩
  have hA2 : At W2 w.heap.size 25 (flC { f with md := maskB f.md v 46079#32 }) := by rw [hW2]; exact (HA6.out.put 1 (.int .u32 (U (maskB f.md v 46079#32)))).as rfl
  have hZ2 : At W2 (w.heap.size + 1) 25 (flC fl0) := by rw [hW2]; exact HZ6.out.far (by simp) _
  have hB2 : Below w.heap.size w W2 := by rw [hW2]; exact HB6.out.setCell (Nat.le_refl _) _
  first | rw [← hW2] | (change Code.wp _ _ _ _ (w6.setCell ⟨w.heap.size, 1, none⟩ (.int .u32 (U (maskB f.md v 46079#32)))); rw [← hW2])
  have HA2 := Lib.hid hA2
  have HZ2 := Lib.hid hZ2
  have HB2 := Lib.hid hB2
  clear hW2 hA2 hZ2 hB2
  go_wp2_with (first | (refine wpList_ldS (flC { f with md := maskB f.md v 46079#32 }) _ HA2.out (by rfl) rfl rfl Try.underlying25 rfl r13fl_size rfl ?_) | (go_at_call 30; (with_reducible refine (HSU.out _).mono ?_); rintro e w7 ⟨rfl, hb⟩; have BL7 := Lib.hid hb; clear hb) | (refine wpList_stS (z := flC fl0) (flC { f with md := maskB f.md v 46079#32 }) _ _ (HZ2.out.keep BL7.out) rfl rfl rfl rfl r13fl_size rfl rfl (fl_one _) ?_; intro w3 hA3 hT3; have HR3 := Lib.hid hA3; have TR3 := Lib.hid hT3; clear hA3 hT3))
  have HB7 := Lib.hid (HB2.out.trans (BL7.out.mono HB2.out.size))
  exact bodyPost_ret (res_S2 (v := .bool true) Try.results14 Try.underlying25 r13fl_size rfl _ rfl rfl HR3.out) rfl ⟨rfl, HB7.out.trans (TR3.out.below (B := w.heap.size) (fun k hk => by unfold Just at hk; omega) HB7.out.size)⟩

set_option maxHeartbeats 1000000 in
theorem r13wr_771 (f : FileM) (p : Int) (v : BitVec 32) (w : World) (h : rdIs 771 p = true) : Calls Try.prog 14 #[.agg (flC f).toArray, .int .i64 771, .int .i64 p, .int .u32 (U v)] w fun e w' => e = .returned (.tuple #[.agg (flC (wrF f 771 v)).toArray, .bool true]) ∧ Below w.heap.size w w' := by
  have HRD := Lib.hid (fun W => r13read_any f 771 p W)
  rw [h] at HRD
  generalize rdM f 771 p = q at *
  clear h

  have HSU := Lib.hid (fun W => r13su_no ({ f with ml := maskB f.ml v 546#32 }) 771 v W (by decide))
  rw [wrF_771]
  have HM : Hid (∀ W, Calls Try.prog 29 #[.int .u32 (U f.ml), .int .u32 (U v), .int .u32 (546)] W fun e w' => e = .returned (.int .u32 (U (maskB f.ml v 546#32))) ∧ w' = W) := Lib.hid (fun W => r13mask_any f.ml v 546#32 W)
  go_enter Try.func14, Try.ntmps14
  go_upto_region 1 with (fail)
  obtain ⟨W1, hW1⟩ : ∃ W, W = (w.alloc (.cells (flC f).toArray 25)).alloc (.cells (flC fl0).toArray 25) := ⟨_, rfl⟩
  have hB := below_two w (.cells (flC f).toArray 25) (.cells (flC fl0).toArray 25)
  have hA : At W1 w.heap.size 25 (flC f) := by rw [hW1]; exact (At.news w 25 (flC f)).alloc _
  have hZ : At W1 (w.heap.size + 1) 25 (flC fl0) := by rw [hW1]; exact At.alloc_new _ 25 (flC fl0) (by simp) rfl
  rw [← hW1] at hB
  first | rw [← hW1] | (change Code.wp _ _ _ _ ((w.alloc (.cells (flC f).toArray 25)).alloc (.cells (flC fl0).toArray 25)); rw [← hW1])
  have HB := Lib.hid hB
  have HA := Lib.hid hA
  have HZ := Lib.hid hZ
  clear hW1 hB hA hZ
  go_upto_region 2 with (first | (refine wpList_ldS (flC f) _ HA.out (by rfl) rfl rfl Try.underlying25 rfl r13fl_size rfl ?_) | (go_at_call 12; (with_reducible refine (HRD.out _).mono ?_); rintro e w6 ⟨rfl, hb⟩; have BL := Lib.hid hb; clear hb))
  have hA6 := HA.out.keep BL.out
  have hZ6 := HZ.out.keep BL.out
  have hB6 := HB.out.trans (BL.out.mono HB.out.size)
  have HA6 := Lib.hid hA6
  have HZ6 := Lib.hid hZ6
  have HB6 := Lib.hid hB6
  clear hA6 hZ6 hB6 HA HZ HB BL
  have c_ml : w6.cell? ⟨w.heap.size, 2, none⟩ = some (.int .u32 (U f.ml)) := HA6.out.cell 2
  have f_2 : w6.frozen? ⟨w.heap.size, 2, none⟩ = false := HA6.out.frozen 2
  go_upto_region 29 with (first | (go_at_call 29; (with_reducible refine (HM.out _).mono ?_); rintro e w5 ⟨rfl, hq⟩; replace hq := hq.symm; subst hq))
  obtain ⟨W2, hW2⟩ : ∃ W, W = w6.setCell ⟨w.heap.size, 2, none⟩ (.int .u32 (U (maskB f.ml v 546#32))) := ⟨_, rfl⟩
  have hA2 : At W2 w.heap.size 25 (flC { f with ml := maskB f.ml v 546#32 }) := by rw [hW2]; exact (HA6.out.put 2 (.int .u32 (U (maskB f.ml v 546#32)))).as rfl
  have hZ2 : At W2 (w.heap.size + 1) 25 (flC fl0) := by rw [hW2]; exact HZ6.out.far (by simp) _
  have hB2 : Below w.heap.size w W2 := by rw [hW2]; exact HB6.out.setCell (Nat.le_refl _) _
  first | rw [← hW2] | (change Code.wp _ _ _ _ (w6.setCell ⟨w.heap.size, 2, none⟩ (.int .u32 (U (maskB f.ml v 546#32)))); rw [← hW2])
  have HA2 := Lib.hid hA2
  have HZ2 := Lib.hid hZ2
  have HB2 := Lib.hid hB2
  clear hW2 hA2 hZ2 hB2
  go_wp2_with (first | (refine wpList_ldS (flC { f with ml := maskB f.ml v 546#32 }) _ HA2.out (by rfl) rfl rfl Try.underlying25 rfl r13fl_size rfl ?_) | (go_at_call 30; (with_reducible refine (HSU.out _).mono ?_); rintro e w7 ⟨rfl, hb⟩; have BL7 := Lib.hid hb; clear hb) | (refine wpList_stS (z := flC fl0) (flC { f with ml := maskB f.ml v 546#32 }) _ _ (HZ2.out.keep BL7.out) rfl rfl rfl rfl r13fl_size rfl rfl (fl_one _) ?_; intro w3 hA3 hT3; have HR3 := Lib.hid hA3; have TR3 := Lib.hid hT3; clear hA3 hT3))
  have HB7 := Lib.hid (HB2.out.trans (BL7.out.mono HB2.out.size))
  exact bodyPost_ret (res_S2 (v := .bool true) Try.results14 Try.underlying25 r13fl_size rfl _ rfl rfl HR3.out) rfl ⟨rfl, HB7.out.trans (TR3.out.below (B := w.heap.size) (fun k hk => by unfold Just at hk; omega) HB7.out.size)⟩

set_option maxHeartbeats 1000000 in
theorem r13wr_772 (f : FileM) (p : Int) (v : BitVec 32) (w : World) (h : rdIs 772 p = true) : Calls Try.prog 14 #[.agg (flC f).toArray, .int .i64 772, .int .i64 p, .int .u32 (U v)] w fun e w' => e = .returned (.tuple #[.agg (flC (wrF f 772 v)).toArray, .bool true]) ∧ Below w.heap.size w w' := by
  have HRD := Lib.hid (fun W => r13read_any f 772 p W)
  rw [h] at HRD
  generalize rdM f 772 p = q at *
  clear h

  have HSU := Lib.hid (fun W => r13su_no ({ f with mie := maskB f.mie v 2730#32 }) 772 v W (by decide))
  rw [wrF_772]
  have HM : Hid (∀ W, Calls Try.prog 29 #[.int .u32 (U f.mie), .int .u32 (U v), .int .u32 (2730)] W fun e w' => e = .returned (.int .u32 (U (maskB f.mie v 2730#32))) ∧ w' = W) := Lib.hid (fun W => r13mask_any f.mie v 2730#32 W)
  go_enter Try.func14, Try.ntmps14
  go_upto_region 1 with (fail)
  obtain ⟨W1, hW1⟩ : ∃ W, W = (w.alloc (.cells (flC f).toArray 25)).alloc (.cells (flC fl0).toArray 25) := ⟨_, rfl⟩
  have hB := below_two w (.cells (flC f).toArray 25) (.cells (flC fl0).toArray 25)
  have hA : At W1 w.heap.size 25 (flC f) := by rw [hW1]; exact (At.news w 25 (flC f)).alloc _
  have hZ : At W1 (w.heap.size + 1) 25 (flC fl0) := by rw [hW1]; exact At.alloc_new _ 25 (flC fl0) (by simp) rfl
  rw [← hW1] at hB
  first | rw [← hW1] | (change Code.wp _ _ _ _ ((w.alloc (.cells (flC f).toArray 25)).alloc (.cells (flC fl0).toArray 25)); rw [← hW1])
  have HB := Lib.hid hB
  have HA := Lib.hid hA
  have HZ := Lib.hid hZ
  clear hW1 hB hA hZ
  go_upto_region 2 with (first | (refine wpList_ldS (flC f) _ HA.out (by rfl) rfl rfl Try.underlying25 rfl r13fl_size rfl ?_) | (go_at_call 12; (with_reducible refine (HRD.out _).mono ?_); rintro e w6 ⟨rfl, hb⟩; have BL := Lib.hid hb; clear hb))
  have hA6 := HA.out.keep BL.out
  have hZ6 := HZ.out.keep BL.out
  have hB6 := HB.out.trans (BL.out.mono HB.out.size)
  have HA6 := Lib.hid hA6
  have HZ6 := Lib.hid hZ6
  have HB6 := Lib.hid hB6
  clear hA6 hZ6 hB6 HA HZ HB BL
  have c_mie : w6.cell? ⟨w.heap.size, 3, none⟩ = some (.int .u32 (U f.mie)) := HA6.out.cell 3
  have f_3 : w6.frozen? ⟨w.heap.size, 3, none⟩ = false := HA6.out.frozen 3
  go_upto_region 29 with (first | (go_at_call 29; (with_reducible refine (HM.out _).mono ?_); rintro e w5 ⟨rfl, hq⟩; replace hq := hq.symm; subst hq))
  obtain ⟨W2, hW2⟩ : ∃ W, W = w6.setCell ⟨w.heap.size, 3, none⟩ (.int .u32 (U (maskB f.mie v 2730#32))) := ⟨_, rfl⟩
  have hA2 : At W2 w.heap.size 25 (flC { f with mie := maskB f.mie v 2730#32 }) := by rw [hW2]; exact (HA6.out.put 3 (.int .u32 (U (maskB f.mie v 2730#32)))).as rfl
  have hZ2 : At W2 (w.heap.size + 1) 25 (flC fl0) := by rw [hW2]; exact HZ6.out.far (by simp) _
  have hB2 : Below w.heap.size w W2 := by rw [hW2]; exact HB6.out.setCell (Nat.le_refl _) _
  first | rw [← hW2] | (change Code.wp _ _ _ _ (w6.setCell ⟨w.heap.size, 3, none⟩ (.int .u32 (U (maskB f.mie v 2730#32)))); rw [← hW2])
  have HA2 := Lib.hid hA2
  have HZ2 := Lib.hid hZ2
  have HB2 := Lib.hid hB2
  clear hW2 hA2 hZ2 hB2
  go_wp2_with (first | (refine wpList_ldS (flC { f with mie := maskB f.mie v 2730#32 }) _ HA2.out (by rfl) rfl rfl Try.underlying25 rfl r13fl_size rfl ?_) | (go_at_call 30; (with_reducible refine (HSU.out _).mono ?_); rintro e w7 ⟨rfl, hb⟩; have BL7 := Lib.hid hb; clear hb) | (refine wpList_stS (z := flC fl0) (flC { f with mie := maskB f.mie v 2730#32 }) _ _ (HZ2.out.keep BL7.out) rfl rfl rfl rfl r13fl_size rfl rfl (fl_one _) ?_; intro w3 hA3 hT3; have HR3 := Lib.hid hA3; have TR3 := Lib.hid hT3; clear hA3 hT3))
  have HB7 := Lib.hid (HB2.out.trans (BL7.out.mono HB2.out.size))
  exact bodyPost_ret (res_S2 (v := .bool true) Try.results14 Try.underlying25 r13fl_size rfl _ rfl rfl HR3.out) rfl ⟨rfl, HB7.out.trans (TR3.out.below (B := w.heap.size) (fun k hk => by unfold Just at hk; omega) HB7.out.size)⟩

set_option maxHeartbeats 1000000 in
theorem r13wr_773 (f : FileM) (p : Int) (v : BitVec 32) (w : World) (h : rdIs 773 p = true) : Calls Try.prog 14 #[.agg (flC f).toArray, .int .i64 773, .int .i64 p, .int .u32 (U v)] w fun e w' => e = .returned (.tuple #[.agg (flC (wrF f 773 v)).toArray, .bool true]) ∧ Below w.heap.size w w' := by
  have HRD := Lib.hid (fun W => r13read_any f 773 p W)
  rw [h] at HRD
  generalize rdM f 773 p = q at *
  clear h

  have HSU := Lib.hid (fun W => r13su_no ({ f with mtvec := v &&& 4294967293#32 }) 773 v W (by decide))
  rw [wrF_773]
  have HM : Hid (∀ W, Calls Try.prog 29 #[.int .u32 (U v), .int .u32 0, .int .u32 2] W fun e w' => e = .returned (.int .u32 (U (v &&& 4294967293#32))) ∧ w' = W) := Lib.hid (fun W => by have := r13mask_any v 0#32 2#32 W; rw [mask_clear] at this; exact this)
  go_enter Try.func14, Try.ntmps14
  go_upto_region 1 with (fail)
  obtain ⟨W1, hW1⟩ : ∃ W, W = (w.alloc (.cells (flC f).toArray 25)).alloc (.cells (flC fl0).toArray 25) := ⟨_, rfl⟩
  have hB := below_two w (.cells (flC f).toArray 25) (.cells (flC fl0).toArray 25)
  have hA : At W1 w.heap.size 25 (flC f) := by rw [hW1]; exact (At.news w 25 (flC f)).alloc _
  have hZ : At W1 (w.heap.size + 1) 25 (flC fl0) := by rw [hW1]; exact At.alloc_new _ 25 (flC fl0) (by simp) rfl
  rw [← hW1] at hB
  first | rw [← hW1] | (change Code.wp _ _ _ _ ((w.alloc (.cells (flC f).toArray 25)).alloc (.cells (flC fl0).toArray 25)); rw [← hW1])
  have HB := Lib.hid hB
  have HA := Lib.hid hA
  have HZ := Lib.hid hZ
  clear hW1 hB hA hZ
  go_upto_region 2 with (first | (refine wpList_ldS (flC f) _ HA.out (by rfl) rfl rfl Try.underlying25 rfl r13fl_size rfl ?_) | (go_at_call 12; (with_reducible refine (HRD.out _).mono ?_); rintro e w6 ⟨rfl, hb⟩; have BL := Lib.hid hb; clear hb))
  have hA6 := HA.out.keep BL.out
  have hZ6 := HZ.out.keep BL.out
  have hB6 := HB.out.trans (BL.out.mono HB.out.size)
  have HA6 := Lib.hid hA6
  have HZ6 := Lib.hid hZ6
  have HB6 := Lib.hid hB6
  clear hA6 hZ6 hB6 HA HZ HB BL
  have c_mtvec : w6.cell? ⟨w.heap.size, 5, none⟩ = some (.int .u32 (U f.mtvec)) := HA6.out.cell 5
  have f_5 : w6.frozen? ⟨w.heap.size, 5, none⟩ = false := HA6.out.frozen 5
  go_upto_region 29 with (first | (go_at_call 29; (with_reducible refine (HM.out _).mono ?_); rintro e w5 ⟨rfl, hq⟩; replace hq := hq.symm; subst hq))
  obtain ⟨W2, hW2⟩ : ∃ W, W = w6.setCell ⟨w.heap.size, 5, none⟩ (.int .u32 (U (v &&& 4294967293#32))) := ⟨_, rfl⟩
  have hA2 : At W2 w.heap.size 25 (flC { f with mtvec := v &&& 4294967293#32 }) := by rw [hW2]; exact (HA6.out.put 5 (.int .u32 (U (v &&& 4294967293#32)))).as rfl
  have hZ2 : At W2 (w.heap.size + 1) 25 (flC fl0) := by rw [hW2]; exact HZ6.out.far (by simp) _
  have hB2 : Below w.heap.size w W2 := by rw [hW2]; exact HB6.out.setCell (Nat.le_refl _) _
  first | rw [← hW2] | (change Code.wp _ _ _ _ (w6.setCell ⟨w.heap.size, 5, none⟩ (.int .u32 (U (v &&& 4294967293#32)))); rw [← hW2])
  have HA2 := Lib.hid hA2
  have HZ2 := Lib.hid hZ2
  have HB2 := Lib.hid hB2
  clear hW2 hA2 hZ2 hB2
  go_wp2_with (first | (refine wpList_ldS (flC { f with mtvec := v &&& 4294967293#32 }) _ HA2.out (by rfl) rfl rfl Try.underlying25 rfl r13fl_size rfl ?_) | (go_at_call 30; (with_reducible refine (HSU.out _).mono ?_); rintro e w7 ⟨rfl, hb⟩; have BL7 := Lib.hid hb; clear hb) | (refine wpList_stS (z := flC fl0) (flC { f with mtvec := v &&& 4294967293#32 }) _ _ (HZ2.out.keep BL7.out) rfl rfl rfl rfl r13fl_size rfl rfl (fl_one _) ?_; intro w3 hA3 hT3; have HR3 := Lib.hid hA3; have TR3 := Lib.hid hT3; clear hA3 hT3))
  have HB7 := Lib.hid (HB2.out.trans (BL7.out.mono HB2.out.size))
  exact bodyPost_ret (res_S2 (v := .bool true) Try.results14 Try.underlying25 r13fl_size rfl _ rfl rfl HR3.out) rfl ⟨rfl, HB7.out.trans (TR3.out.below (B := w.heap.size) (fun k hk => by unfold Just at hk; omega) HB7.out.size)⟩

set_option maxHeartbeats 1000000 in
theorem r13wr_832 (f : FileM) (p : Int) (v : BitVec 32) (w : World) (h : rdIs 832 p = true) : Calls Try.prog 14 #[.agg (flC f).toArray, .int .i64 832, .int .i64 p, .int .u32 (U v)] w fun e w' => e = .returned (.tuple #[.agg (flC (wrF f 832 v)).toArray, .bool true]) ∧ Below w.heap.size w w' := by
  have HRD := Lib.hid (fun W => r13read_any f 832 p W)
  rw [h] at HRD
  generalize rdM f 832 p = q at *
  clear h

  have HSU := Lib.hid (fun W => r13su_no ({ f with mscr := v }) 832 v W (by decide))
  rw [wrF_832]
  go_enter Try.func14, Try.ntmps14
  go_upto_region 1 with (fail)
  obtain ⟨W1, hW1⟩ : ∃ W, W = (w.alloc (.cells (flC f).toArray 25)).alloc (.cells (flC fl0).toArray 25) := ⟨_, rfl⟩
  have hB := below_two w (.cells (flC f).toArray 25) (.cells (flC fl0).toArray 25)
  have hA : At W1 w.heap.size 25 (flC f) := by rw [hW1]; exact (At.news w 25 (flC f)).alloc _
  have hZ : At W1 (w.heap.size + 1) 25 (flC fl0) := by rw [hW1]; exact At.alloc_new _ 25 (flC fl0) (by simp) rfl
  rw [← hW1] at hB
  first | rw [← hW1] | (change Code.wp _ _ _ _ ((w.alloc (.cells (flC f).toArray 25)).alloc (.cells (flC fl0).toArray 25)); rw [← hW1])
  have HB := Lib.hid hB
  have HA := Lib.hid hA
  have HZ := Lib.hid hZ
  clear hW1 hB hA hZ
  go_upto_region 2 with (first | (refine wpList_ldS (flC f) _ HA.out (by rfl) rfl rfl Try.underlying25 rfl r13fl_size rfl ?_) | (go_at_call 12; (with_reducible refine (HRD.out _).mono ?_); rintro e w6 ⟨rfl, hb⟩; have BL := Lib.hid hb; clear hb))
  have hA6 := HA.out.keep BL.out
  have hZ6 := HZ.out.keep BL.out
  have hB6 := HB.out.trans (BL.out.mono HB.out.size)
  have HA6 := Lib.hid hA6
  have HZ6 := Lib.hid hZ6
  have HB6 := Lib.hid hB6
  clear hA6 hZ6 hB6 HA HZ HB BL
  have c_mscr : w6.cell? ⟨w.heap.size, 6, none⟩ = some (.int .u32 (U f.mscr)) := HA6.out.cell 6
  have f_6 : w6.frozen? ⟨w.heap.size, 6, none⟩ = false := HA6.out.frozen 6
  go_upto_region 29 with (fail)
  obtain ⟨W2, hW2⟩ : ∃ W, W = w6.setCell ⟨w.heap.size, 6, none⟩ (.int .u32 (U (v))) := ⟨_, rfl⟩
  have hA2 : At W2 w.heap.size 25 (flC { f with mscr := v }) := by rw [hW2]; exact (HA6.out.put 6 (.int .u32 (U (v)))).as rfl
  have hZ2 : At W2 (w.heap.size + 1) 25 (flC fl0) := by rw [hW2]; exact HZ6.out.far (by simp) _
  have hB2 : Below w.heap.size w W2 := by rw [hW2]; exact HB6.out.setCell (Nat.le_refl _) _
  first | rw [← hW2] | (change Code.wp _ _ _ _ (w6.setCell ⟨w.heap.size, 6, none⟩ (.int .u32 (U (v)))); rw [← hW2])
  have HA2 := Lib.hid hA2
  have HZ2 := Lib.hid hZ2
  have HB2 := Lib.hid hB2
  clear hW2 hA2 hZ2 hB2
  go_wp2_with (first | (refine wpList_ldS (flC { f with mscr := v }) _ HA2.out (by rfl) rfl rfl Try.underlying25 rfl r13fl_size rfl ?_) | (go_at_call 30; (with_reducible refine (HSU.out _).mono ?_); rintro e w7 ⟨rfl, hb⟩; have BL7 := Lib.hid hb; clear hb) | (refine wpList_stS (z := flC fl0) (flC { f with mscr := v }) _ _ (HZ2.out.keep BL7.out) rfl rfl rfl rfl r13fl_size rfl rfl (fl_one _) ?_; intro w3 hA3 hT3; have HR3 := Lib.hid hA3; have TR3 := Lib.hid hT3; clear hA3 hT3))
  have HB7 := Lib.hid (HB2.out.trans (BL7.out.mono HB2.out.size))
  exact bodyPost_ret (res_S2 (v := .bool true) Try.results14 Try.underlying25 r13fl_size rfl _ rfl rfl HR3.out) rfl ⟨rfl, HB7.out.trans (TR3.out.below (B := w.heap.size) (fun k hk => by unfold Just at hk; omega) HB7.out.size)⟩

set_option maxHeartbeats 1000000 in
theorem r13wr_833 (f : FileM) (p : Int) (v : BitVec 32) (w : World) (h : rdIs 833 p = true) : Calls Try.prog 14 #[.agg (flC f).toArray, .int .i64 833, .int .i64 p, .int .u32 (U v)] w fun e w' => e = .returned (.tuple #[.agg (flC (wrF f 833 v)).toArray, .bool true]) ∧ Below w.heap.size w w' := by
  have HRD := Lib.hid (fun W => r13read_any f 833 p W)
  rw [h] at HRD
  generalize rdM f 833 p = q at *
  clear h

  have HSU := Lib.hid (fun W => r13su_no ({ f with mepc := v &&& 4294967292#32 }) 833 v W (by decide))
  rw [wrF_833]
  have g1 : (U v).tmod 4 = U v % 4 := Int.tmod_eq_emod_of_nonneg (U_nonneg v)
  have g2 : (U v - U v % 4) % 4294967296 = U (v &&& 4294967292#32) := less_four v
  go_enter Try.func14, Try.ntmps14
  go_upto_region 1 with (fail)
  obtain ⟨W1, hW1⟩ : ∃ W, W = (w.alloc (.cells (flC f).toArray 25)).alloc (.cells (flC fl0).toArray 25) := ⟨_, rfl⟩
  have hB := below_two w (.cells (flC f).toArray 25) (.cells (flC fl0).toArray 25)
  have hA : At W1 w.heap.size 25 (flC f) := by rw [hW1]; exact (At.news w 25 (flC f)).alloc _
  have hZ : At W1 (w.heap.size + 1) 25 (flC fl0) := by rw [hW1]; exact At.alloc_new _ 25 (flC fl0) (by simp) rfl
  rw [← hW1] at hB
  first | rw [← hW1] | (change Code.wp _ _ _ _ ((w.alloc (.cells (flC f).toArray 25)).alloc (.cells (flC fl0).toArray 25)); rw [← hW1])
  have HB := Lib.hid hB
  have HA := Lib.hid hA
  have HZ := Lib.hid hZ
  clear hW1 hB hA hZ
  go_upto_region 2 with (first | (refine wpList_ldS (flC f) _ HA.out (by rfl) rfl rfl Try.underlying25 rfl r13fl_size rfl ?_) | (go_at_call 12; (with_reducible refine (HRD.out _).mono ?_); rintro e w6 ⟨rfl, hb⟩; have BL := Lib.hid hb; clear hb))
  have hA6 := HA.out.keep BL.out
  have hZ6 := HZ.out.keep BL.out
  have hB6 := HB.out.trans (BL.out.mono HB.out.size)
  have HA6 := Lib.hid hA6
  have HZ6 := Lib.hid hZ6
  have HB6 := Lib.hid hB6
  clear hA6 hZ6 hB6 HA HZ HB BL
  have c_mepc : w6.cell? ⟨w.heap.size, 7, none⟩ = some (.int .u32 (U f.mepc)) := HA6.out.cell 7
  have f_7 : w6.frozen? ⟨w.heap.size, 7, none⟩ = false := HA6.out.frozen 7
  go_upto_region 29 with (fail)
  obtain ⟨W2, hW2⟩ : ∃ W, W = w6.setCell ⟨w.heap.size, 7, none⟩ (.int .u32 (U (v &&& 4294967292#32))) := ⟨_, rfl⟩
  have hA2 : At W2 w.heap.size 25 (flC { f with mepc := v &&& 4294967292#32 }) := by rw [hW2]; exact (HA6.out.put 7 (.int .u32 (U (v &&& 4294967292#32)))).as rfl
  have hZ2 : At W2 (w.heap.size + 1) 25 (flC fl0) := by rw [hW2]; exact HZ6.out.far (by simp) _
  have hB2 : Below w.heap.size w W2 := by rw [hW2]; exact HB6.out.setCell (Nat.le_refl _) _
  first | rw [← hW2] | (change Code.wp _ _ _ _ (w6.setCell ⟨w.heap.size, 7, none⟩ (.int .u32 (U (v &&& 4294967292#32)))); rw [← hW2])
  have HA2 := Lib.hid hA2
  have HZ2 := Lib.hid hZ2
  have HB2 := Lib.hid hB2
  clear hW2 hA2 hZ2 hB2
  go_wp2_with (first | (refine wpList_ldS (flC { f with mepc := v &&& 4294967292#32 }) _ HA2.out (by rfl) rfl rfl Try.underlying25 rfl r13fl_size rfl ?_) | (go_at_call 30; (with_reducible refine (HSU.out _).mono ?_); rintro e w7 ⟨rfl, hb⟩; have BL7 := Lib.hid hb; clear hb) | (refine wpList_stS (z := flC fl0) (flC { f with mepc := v &&& 4294967292#32 }) _ _ (HZ2.out.keep BL7.out) rfl rfl rfl rfl r13fl_size rfl rfl (fl_one _) ?_; intro w3 hA3 hT3; have HR3 := Lib.hid hA3; have TR3 := Lib.hid hT3; clear hA3 hT3))
  have HB7 := Lib.hid (HB2.out.trans (BL7.out.mono HB2.out.size))
  exact bodyPost_ret (res_S2 (v := .bool true) Try.results14 Try.underlying25 r13fl_size rfl _ rfl rfl HR3.out) rfl ⟨rfl, HB7.out.trans (TR3.out.below (B := w.heap.size) (fun k hk => by unfold Just at hk; omega) HB7.out.size)⟩

set_option maxHeartbeats 1000000 in
theorem r13wr_834 (f : FileM) (p : Int) (v : BitVec 32) (w : World) (h : rdIs 834 p = true) : Calls Try.prog 14 #[.agg (flC f).toArray, .int .i64 834, .int .i64 p, .int .u32 (U v)] w fun e w' => e = .returned (.tuple #[.agg (flC (wrF f 834 v)).toArray, .bool true]) ∧ Below w.heap.size w w' := by
  have HRD := Lib.hid (fun W => r13read_any f 834 p W)
  rw [h] at HRD
  generalize rdM f 834 p = q at *
  clear h

  have HSU := Lib.hid (fun W => r13su_no ({ f with mcause := v }) 834 v W (by decide))
  rw [wrF_834]
  go_enter Try.func14, Try.ntmps14
  go_upto_region 1 with (fail)
  obtain ⟨W1, hW1⟩ : ∃ W, W = (w.alloc (.cells (flC f).toArray 25)).alloc (.cells (flC fl0).toArray 25) := ⟨_, rfl⟩
  have hB := below_two w (.cells (flC f).toArray 25) (.cells (flC fl0).toArray 25)
  have hA : At W1 w.heap.size 25 (flC f) := by rw [hW1]; exact (At.news w 25 (flC f)).alloc _
  have hZ : At W1 (w.heap.size + 1) 25 (flC fl0) := by rw [hW1]; exact At.alloc_new _ 25 (flC fl0) (by simp) rfl
  rw [← hW1] at hB
  first | rw [← hW1] | (change Code.wp _ _ _ _ ((w.alloc (.cells (flC f).toArray 25)).alloc (.cells (flC fl0).toArray 25)); rw [← hW1])
  have HB := Lib.hid hB
  have HA := Lib.hid hA
  have HZ := Lib.hid hZ
  clear hW1 hB hA hZ
  go_upto_region 2 with (first | (refine wpList_ldS (flC f) _ HA.out (by rfl) rfl rfl Try.underlying25 rfl r13fl_size rfl ?_) | (go_at_call 12; (with_reducible refine (HRD.out _).mono ?_); rintro e w6 ⟨rfl, hb⟩; have BL := Lib.hid hb; clear hb))
  have hA6 := HA.out.keep BL.out
  have hZ6 := HZ.out.keep BL.out
  have hB6 := HB.out.trans (BL.out.mono HB.out.size)
  have HA6 := Lib.hid hA6
  have HZ6 := Lib.hid hZ6
  have HB6 := Lib.hid hB6
  clear hA6 hZ6 hB6 HA HZ HB BL
  have c_mcause : w6.cell? ⟨w.heap.size, 8, none⟩ = some (.int .u32 (U f.mcause)) := HA6.out.cell 8
  have f_8 : w6.frozen? ⟨w.heap.size, 8, none⟩ = false := HA6.out.frozen 8
  go_upto_region 29 with (fail)
  obtain ⟨W2, hW2⟩ : ∃ W, W = w6.setCell ⟨w.heap.size, 8, none⟩ (.int .u32 (U (v))) := ⟨_, rfl⟩
  have hA2 : At W2 w.heap.size 25 (flC { f with mcause := v }) := by rw [hW2]; exact (HA6.out.put 8 (.int .u32 (U (v)))).as rfl
  have hZ2 : At W2 (w.heap.size + 1) 25 (flC fl0) := by rw [hW2]; exact HZ6.out.far (by simp) _
  have hB2 : Below w.heap.size w W2 := by rw [hW2]; exact HB6.out.setCell (Nat.le_refl _) _
  first | rw [← hW2] | (change Code.wp _ _ _ _ (w6.setCell ⟨w.heap.size, 8, none⟩ (.int .u32 (U (v)))); rw [← hW2])
  have HA2 := Lib.hid hA2
  have HZ2 := Lib.hid hZ2
  have HB2 := Lib.hid hB2
  clear hW2 hA2 hZ2 hB2
  go_wp2_with (first | (refine wpList_ldS (flC { f with mcause := v }) _ HA2.out (by rfl) rfl rfl Try.underlying25 rfl r13fl_size rfl ?_) | (go_at_call 30; (with_reducible refine (HSU.out _).mono ?_); rintro e w7 ⟨rfl, hb⟩; have BL7 := Lib.hid hb; clear hb) | (refine wpList_stS (z := flC fl0) (flC { f with mcause := v }) _ _ (HZ2.out.keep BL7.out) rfl rfl rfl rfl r13fl_size rfl rfl (fl_one _) ?_; intro w3 hA3 hT3; have HR3 := Lib.hid hA3; have TR3 := Lib.hid hT3; clear hA3 hT3))
  have HB7 := Lib.hid (HB2.out.trans (BL7.out.mono HB2.out.size))
  exact bodyPost_ret (res_S2 (v := .bool true) Try.results14 Try.underlying25 r13fl_size rfl _ rfl rfl HR3.out) rfl ⟨rfl, HB7.out.trans (TR3.out.below (B := w.heap.size) (fun k hk => by unfold Just at hk; omega) HB7.out.size)⟩

set_option maxHeartbeats 1000000 in
theorem r13wr_835 (f : FileM) (p : Int) (v : BitVec 32) (w : World) (h : rdIs 835 p = true) : Calls Try.prog 14 #[.agg (flC f).toArray, .int .i64 835, .int .i64 p, .int .u32 (U v)] w fun e w' => e = .returned (.tuple #[.agg (flC (wrF f 835 v)).toArray, .bool true]) ∧ Below w.heap.size w w' := by
  have HRD := Lib.hid (fun W => r13read_any f 835 p W)
  rw [h] at HRD
  generalize rdM f 835 p = q at *
  clear h

  have HSU := Lib.hid (fun W => r13su_no ({ f with mtval := v }) 835 v W (by decide))
  rw [wrF_835]
  go_enter Try.func14, Try.ntmps14
  go_upto_region 1 with (fail)
  obtain ⟨W1, hW1⟩ : ∃ W, W = (w.alloc (.cells (flC f).toArray 25)).alloc (.cells (flC fl0).toArray 25) := ⟨_, rfl⟩
  have hB := below_two w (.cells (flC f).toArray 25) (.cells (flC fl0).toArray 25)
  have hA : At W1 w.heap.size 25 (flC f) := by rw [hW1]; exact (At.news w 25 (flC f)).alloc _
  have hZ : At W1 (w.heap.size + 1) 25 (flC fl0) := by rw [hW1]; exact At.alloc_new _ 25 (flC fl0) (by simp) rfl
  rw [← hW1] at hB
  first | rw [← hW1] | (change Code.wp _ _ _ _ ((w.alloc (.cells (flC f).toArray 25)).alloc (.cells (flC fl0).toArray 25)); rw [← hW1])
  have HB := Lib.hid hB
  have HA := Lib.hid hA
  have HZ := Lib.hid hZ
  clear hW1 hB hA hZ
  go_upto_region 2 with (first | (refine wpList_ldS (flC f) _ HA.out (by rfl) rfl rfl Try.underlying25 rfl r13fl_size rfl ?_) | (go_at_call 12; (with_reducible refine (HRD.out _).mono ?_); rintro e w6 ⟨rfl, hb⟩; have BL := Lib.hid hb; clear hb))
  have hA6 := HA.out.keep BL.out
  have hZ6 := HZ.out.keep BL.out
  have hB6 := HB.out.trans (BL.out.mono HB.out.size)
  have HA6 := Lib.hid hA6
  have HZ6 := Lib.hid hZ6
  have HB6 := Lib.hid hB6
  clear hA6 hZ6 hB6 HA HZ HB BL
  have c_mtval : w6.cell? ⟨w.heap.size, 9, none⟩ = some (.int .u32 (U f.mtval)) := HA6.out.cell 9
  have f_9 : w6.frozen? ⟨w.heap.size, 9, none⟩ = false := HA6.out.frozen 9
  go_upto_region 29 with (fail)
  obtain ⟨W2, hW2⟩ : ∃ W, W = w6.setCell ⟨w.heap.size, 9, none⟩ (.int .u32 (U (v))) := ⟨_, rfl⟩
  have hA2 : At W2 w.heap.size 25 (flC { f with mtval := v }) := by rw [hW2]; exact (HA6.out.put 9 (.int .u32 (U (v)))).as rfl
  have hZ2 : At W2 (w.heap.size + 1) 25 (flC fl0) := by rw [hW2]; exact HZ6.out.far (by simp) _
  have hB2 : Below w.heap.size w W2 := by rw [hW2]; exact HB6.out.setCell (Nat.le_refl _) _
  first | rw [← hW2] | (change Code.wp _ _ _ _ (w6.setCell ⟨w.heap.size, 9, none⟩ (.int .u32 (U (v)))); rw [← hW2])
  have HA2 := Lib.hid hA2
  have HZ2 := Lib.hid hZ2
  have HB2 := Lib.hid hB2
  clear hW2 hA2 hZ2 hB2
  go_wp2_with (first | (refine wpList_ldS (flC { f with mtval := v }) _ HA2.out (by rfl) rfl rfl Try.underlying25 rfl r13fl_size rfl ?_) | (go_at_call 30; (with_reducible refine (HSU.out _).mono ?_); rintro e w7 ⟨rfl, hb⟩; have BL7 := Lib.hid hb; clear hb) | (refine wpList_stS (z := flC fl0) (flC { f with mtval := v }) _ _ (HZ2.out.keep BL7.out) rfl rfl rfl rfl r13fl_size rfl rfl (fl_one _) ?_; intro w3 hA3 hT3; have HR3 := Lib.hid hA3; have TR3 := Lib.hid hT3; clear hA3 hT3))
  have HB7 := Lib.hid (HB2.out.trans (BL7.out.mono HB2.out.size))
  exact bodyPost_ret (res_S2 (v := .bool true) Try.results14 Try.underlying25 r13fl_size rfl _ rfl rfl HR3.out) rfl ⟨rfl, HB7.out.trans (TR3.out.below (B := w.heap.size) (fun k hk => by unfold Just at hk; omega) HB7.out.size)⟩

set_option maxHeartbeats 1000000 in
theorem r13wr_836 (f : FileM) (p : Int) (v : BitVec 32) (w : World) (h : rdIs 836 p = true) : Calls Try.prog 14 #[.agg (flC f).toArray, .int .i64 836, .int .i64 p, .int .u32 (U v)] w fun e w' => e = .returned (.tuple #[.agg (flC (wrF f 836 v)).toArray, .bool true]) ∧ Below w.heap.size w w' := by
  have HRD := Lib.hid (fun W => r13read_any f 836 p W)
  rw [h] at HRD
  generalize rdM f 836 p = q at *
  clear h

  have HSU := Lib.hid (fun W => r13su_no ({ f with mip := maskB f.mip v 546#32 }) 836 v W (by decide))
  rw [wrF_836]
  have HM : Hid (∀ W, Calls Try.prog 29 #[.int .u32 (U f.mip), .int .u32 (U v), .int .u32 (546)] W fun e w' => e = .returned (.int .u32 (U (maskB f.mip v 546#32))) ∧ w' = W) := Lib.hid (fun W => r13mask_any f.mip v 546#32 W)
  go_enter Try.func14, Try.ntmps14
  go_upto_region 1 with (fail)
  obtain ⟨W1, hW1⟩ : ∃ W, W = (w.alloc (.cells (flC f).toArray 25)).alloc (.cells (flC fl0).toArray 25) := ⟨_, rfl⟩
  have hB := below_two w (.cells (flC f).toArray 25) (.cells (flC fl0).toArray 25)
  have hA : At W1 w.heap.size 25 (flC f) := by rw [hW1]; exact (At.news w 25 (flC f)).alloc _
  have hZ : At W1 (w.heap.size + 1) 25 (flC fl0) := by rw [hW1]; exact At.alloc_new _ 25 (flC fl0) (by simp) rfl
  rw [← hW1] at hB
  first | rw [← hW1] | (change Code.wp _ _ _ _ ((w.alloc (.cells (flC f).toArray 25)).alloc (.cells (flC fl0).toArray 25)); rw [← hW1])
  have HB := Lib.hid hB
  have HA := Lib.hid hA
  have HZ := Lib.hid hZ
  clear hW1 hB hA hZ
  go_upto_region 2 with (first | (refine wpList_ldS (flC f) _ HA.out (by rfl) rfl rfl Try.underlying25 rfl r13fl_size rfl ?_) | (go_at_call 12; (with_reducible refine (HRD.out _).mono ?_); rintro e w6 ⟨rfl, hb⟩; have BL := Lib.hid hb; clear hb))
  have hA6 := HA.out.keep BL.out
  have hZ6 := HZ.out.keep BL.out
  have hB6 := HB.out.trans (BL.out.mono HB.out.size)
  have HA6 := Lib.hid hA6
  have HZ6 := Lib.hid hZ6
  have HB6 := Lib.hid hB6
  clear hA6 hZ6 hB6 HA HZ HB BL
  have c_mip : w6.cell? ⟨w.heap.size, 4, none⟩ = some (.int .u32 (U f.mip)) := HA6.out.cell 4
  have f_4 : w6.frozen? ⟨w.heap.size, 4, none⟩ = false := HA6.out.frozen 4
  go_upto_region 29 with (first | (go_at_call 29; (with_reducible refine (HM.out _).mono ?_); rintro e w5 ⟨rfl, hq⟩; replace hq := hq.symm; subst hq))
  obtain ⟨W2, hW2⟩ : ∃ W, W = w6.setCell ⟨w.heap.size, 4, none⟩ (.int .u32 (U (maskB f.mip v 546#32))) := ⟨_, rfl⟩
  have hA2 : At W2 w.heap.size 25 (flC { f with mip := maskB f.mip v 546#32 }) := by rw [hW2]; exact (HA6.out.put 4 (.int .u32 (U (maskB f.mip v 546#32)))).as rfl
  have hZ2 : At W2 (w.heap.size + 1) 25 (flC fl0) := by rw [hW2]; exact HZ6.out.far (by simp) _
  have hB2 : Below w.heap.size w W2 := by rw [hW2]; exact HB6.out.setCell (Nat.le_refl _) _
  first | rw [← hW2] | (change Code.wp _ _ _ _ (w6.setCell ⟨w.heap.size, 4, none⟩ (.int .u32 (U (maskB f.mip v 546#32)))); rw [← hW2])
  have HA2 := Lib.hid hA2
  have HZ2 := Lib.hid hZ2
  have HB2 := Lib.hid hB2
  clear hW2 hA2 hZ2 hB2
  go_wp2_with (first | (refine wpList_ldS (flC { f with mip := maskB f.mip v 546#32 }) _ HA2.out (by rfl) rfl rfl Try.underlying25 rfl r13fl_size rfl ?_) | (go_at_call 30; (with_reducible refine (HSU.out _).mono ?_); rintro e w7 ⟨rfl, hb⟩; have BL7 := Lib.hid hb; clear hb) | (refine wpList_stS (z := flC fl0) (flC { f with mip := maskB f.mip v 546#32 }) _ _ (HZ2.out.keep BL7.out) rfl rfl rfl rfl r13fl_size rfl rfl (fl_one _) ?_; intro w3 hA3 hT3; have HR3 := Lib.hid hA3; have TR3 := Lib.hid hT3; clear hA3 hT3))
  have HB7 := Lib.hid (HB2.out.trans (BL7.out.mono HB2.out.size))
  exact bodyPost_ret (res_S2 (v := .bool true) Try.results14 Try.underlying25 r13fl_size rfl _ rfl rfl HR3.out) rfl ⟨rfl, HB7.out.trans (TR3.out.below (B := w.heap.size) (fun k hk => by unfold Just at hk; omega) HB7.out.size)⟩

set_option maxHeartbeats 1000000 in
theorem r13wr_2816 (f : FileM) (p : Int) (v : BitVec 32) (w : World) (h : rdIs 2816 p = true) : Calls Try.prog 14 #[.agg (flC f).toArray, .int .i64 2816, .int .i64 p, .int .u32 (U v)] w fun e w' => e = .returned (.tuple #[.agg (flC (wrF f 2816 v)).toArray, .bool true]) ∧ Below w.heap.size w w' := by
  have HRD := Lib.hid (fun W => r13read_any f 2816 p W)
  rw [h] at HRD
  generalize rdM f 2816 p = q at *
  clear h

  have HSU := Lib.hid (fun W => r13su_no ({ f with lo := v }) 2816 v W (by decide))
  rw [wrF_2816]
  have cb := cyc_b f
  have g1 : f.cyc.tmod 4294967296 = U f.lo := by rw [Int.tmod_eq_emod_of_nonneg cb.1, cyc_lo]
  have g2 : f.cyc - U f.lo = U f.hi * 4294967296 := by unfold FileM.cyc; omega
  have b1 := U_nonneg f.hi
  have b2 := U_lt f.hi
  have b3 := U_nonneg v
  have b4 := U_lt v
  have g3 : IntKind.u64.wrap (f.cyc - U f.lo) = U f.hi * 4294967296 := by rw [IntKind.wrap_u64, g2]; omega
  have g4 : IntKind.u64.wrap (U v) = U v := by rw [IntKind.wrap_u64]; omega
  have g5 : IntKind.u64.wrap (U f.hi * 4294967296 + U v) = U f.hi * 4294967296 + U v := by rw [IntKind.wrap_u64]; omega
  clear g2 b1 b2 b3 b4 cb
  go_enter Try.func14, Try.ntmps14
  go_upto_region 1 with (fail)
  obtain ⟨W1, hW1⟩ : ∃ W, W = (w.alloc (.cells (flC f).toArray 25)).alloc (.cells (flC fl0).toArray 25) := ⟨_, rfl⟩
  have hB := below_two w (.cells (flC f).toArray 25) (.cells (flC fl0).toArray 25)
  have hA : At W1 w.heap.size 25 (flC f) := by rw [hW1]; exact (At.news w 25 (flC f)).alloc _
  have hZ : At W1 (w.heap.size + 1) 25 (flC fl0) := by rw [hW1]; exact At.alloc_new _ 25 (flC fl0) (by simp) rfl
  rw [← hW1] at hB
  first | rw [← hW1] | (change Code.wp _ _ _ _ ((w.alloc (.cells (flC f).toArray 25)).alloc (.cells (flC fl0).toArray 25)); rw [← hW1])
  have HB := Lib.hid hB
  have HA := Lib.hid hA
  have HZ := Lib.hid hZ
  clear hW1 hB hA hZ
  go_upto_region 2 with (first | (refine wpList_ldS (flC f) _ HA.out (by rfl) rfl rfl Try.underlying25 rfl r13fl_size rfl ?_) | (go_at_call 12; (with_reducible refine (HRD.out _).mono ?_); rintro e w6 ⟨rfl, hb⟩; have BL := Lib.hid hb; clear hb))
  have hA6 := HA.out.keep BL.out
  have hZ6 := HZ.out.keep BL.out
  have hB6 := HB.out.trans (BL.out.mono HB.out.size)
  have HA6 := Lib.hid hA6
  have HZ6 := Lib.hid hZ6
  have HB6 := Lib.hid hB6
  clear hA6 hZ6 hB6 HA HZ HB BL
  have c_cyc : w6.cell? ⟨w.heap.size, 16, none⟩ = some (.int .u64 f.cyc) := HA6.out.cell 16
  have f_16 : w6.frozen? ⟨w.heap.size, 16, none⟩ = false := HA6.out.frozen 16
  go_upto_region 29 with (fail)
  obtain ⟨W2, hW2⟩ : ∃ W, W = w6.setCell ⟨w.heap.size, 16, none⟩ (.int .u64 (U f.hi * 4294967296 + U v)) := ⟨_, rfl⟩
  have hA2 : At W2 w.heap.size 25 (flC { f with lo := v }) := by rw [hW2]; exact (HA6.out.put 16 (.int .u64 (U f.hi * 4294967296 + U v))).as rfl
  have hZ2 : At W2 (w.heap.size + 1) 25 (flC fl0) := by rw [hW2]; exact HZ6.out.far (by simp) _
  have hB2 : Below w.heap.size w W2 := by rw [hW2]; exact HB6.out.setCell (Nat.le_refl _) _
  first | rw [← hW2] | (change Code.wp _ _ _ _ (w6.setCell ⟨w.heap.size, 16, none⟩ (.int .u64 (U f.hi * 4294967296 + U v))); rw [← hW2])
  have HA2 := Lib.hid hA2
  have HZ2 := Lib.hid hZ2
  have HB2 := Lib.hid hB2
  clear hW2 hA2 hZ2 hB2
  go_wp2_with (first | (refine wpList_ldS (flC { f with lo := v }) _ HA2.out (by rfl) rfl rfl Try.underlying25 rfl r13fl_size rfl ?_) | (go_at_call 30; (with_reducible refine (HSU.out _).mono ?_); rintro e w7 ⟨rfl, hb⟩; have BL7 := Lib.hid hb; clear hb) | (refine wpList_stS (z := flC fl0) (flC { f with lo := v }) _ _ (HZ2.out.keep BL7.out) rfl rfl rfl rfl r13fl_size rfl rfl (fl_one _) ?_; intro w3 hA3 hT3; have HR3 := Lib.hid hA3; have TR3 := Lib.hid hT3; clear hA3 hT3))
  have HB7 := Lib.hid (HB2.out.trans (BL7.out.mono HB2.out.size))
  exact bodyPost_ret (res_S2 (v := .bool true) Try.results14 Try.underlying25 r13fl_size rfl _ rfl rfl HR3.out) rfl ⟨rfl, HB7.out.trans (TR3.out.below (B := w.heap.size) (fun k hk => by unfold Just at hk; omega) HB7.out.size)⟩

set_option maxHeartbeats 1000000 in
theorem r13wr_2944 (f : FileM) (p : Int) (v : BitVec 32) (w : World) (h : rdIs 2944 p = true) : Calls Try.prog 14 #[.agg (flC f).toArray, .int .i64 2944, .int .i64 p, .int .u32 (U v)] w fun e w' => e = .returned (.tuple #[.agg (flC (wrF f 2944 v)).toArray, .bool true]) ∧ Below w.heap.size w w' := by
  have HRD := Lib.hid (fun W => r13read_any f 2944 p W)
  rw [h] at HRD
  generalize rdM f 2944 p = q at *
  clear h

  have HSU := Lib.hid (fun W => r13su_no ({ f with hi := v }) 2944 v W (by decide))
  rw [wrF_2944]
  have cb := cyc_b f
  have g1 : f.cyc.tmod 4294967296 = U f.lo := by rw [Int.tmod_eq_emod_of_nonneg cb.1, cyc_lo]
  have b1 := U_nonneg f.lo
  have b2 := U_lt f.lo
  have b3 := U_nonneg v
  have b4 := U_lt v
  have g3 : IntKind.u64.wrap (U v * 4294967296) = U v * 4294967296 := by rw [IntKind.wrap_u64]; omega
  have g4 : IntKind.u64.wrap (U v) = U v := by rw [IntKind.wrap_u64]; omega
  have g5 : IntKind.u64.wrap (U f.lo + U v * 4294967296) = U v * 4294967296 + U f.lo := by rw [IntKind.wrap_u64]; omega
  clear b1 b2 b3 b4 cb
  go_enter Try.func14, Try.ntmps14
  go_upto_region 1 with (fail)
  obtain ⟨W1, hW1⟩ : ∃ W, W = (w.alloc (.cells (flC f).toArray 25)).alloc (.cells (flC fl0).toArray 25) := ⟨_, rfl⟩
  have hB := below_two w (.cells (flC f).toArray 25) (.cells (flC fl0).toArray 25)
  have hA : At W1 w.heap.size 25 (flC f) := by rw [hW1]; exact (At.news w 25 (flC f)).alloc _
  have hZ : At W1 (w.heap.size + 1) 25 (flC fl0) := by rw [hW1]; exact At.alloc_new _ 25 (flC fl0) (by simp) rfl
  rw [← hW1] at hB
  first | rw [← hW1] | (change Code.wp _ _ _ _ ((w.alloc (.cells (flC f).toArray 25)).alloc (.cells (flC fl0).toArray 25)); rw [← hW1])
  have HB := Lib.hid hB
  have HA := Lib.hid hA
  have HZ := Lib.hid hZ
  clear hW1 hB hA hZ
  go_upto_region 2 with (first | (refine wpList_ldS (flC f) _ HA.out (by rfl) rfl rfl Try.underlying25 rfl r13fl_size rfl ?_) | (go_at_call 12; (with_reducible refine (HRD.out _).mono ?_); rintro e w6 ⟨rfl, hb⟩; have BL := Lib.hid hb; clear hb))
  have hA6 := HA.out.keep BL.out
  have hZ6 := HZ.out.keep BL.out
  have hB6 := HB.out.trans (BL.out.mono HB.out.size)
  have HA6 := Lib.hid hA6
  have HZ6 := Lib.hid hZ6
  have HB6 := Lib.hid hB6
  clear hA6 hZ6 hB6 HA HZ HB BL
  have c_cyc : w6.cell? ⟨w.heap.size, 16, none⟩ = some (.int .u64 f.cyc) := HA6.out.cell 16
  have f_16 : w6.frozen? ⟨w.heap.size, 16, none⟩ = false := HA6.out.frozen 16
  go_upto_region 29 with (fail)
  obtain ⟨W2, hW2⟩ : ∃ W, W = w6.setCell ⟨w.heap.size, 16, none⟩ (.int .u64 (U v * 4294967296 + U f.lo)) := ⟨_, rfl⟩
  have hA2 : At W2 w.heap.size 25 (flC { f with hi := v }) := by rw [hW2]; exact (HA6.out.put 16 (.int .u64 (U v * 4294967296 + U f.lo))).as rfl
  have hZ2 : At W2 (w.heap.size + 1) 25 (flC fl0) := by rw [hW2]; exact HZ6.out.far (by simp) _
  have hB2 : Below w.heap.size w W2 := by rw [hW2]; exact HB6.out.setCell (Nat.le_refl _) _
  first | rw [← hW2] | (change Code.wp _ _ _ _ (w6.setCell ⟨w.heap.size, 16, none⟩ (.int .u64 (U v * 4294967296 + U f.lo))); rw [← hW2])
  have HA2 := Lib.hid hA2
  have HZ2 := Lib.hid hZ2
  have HB2 := Lib.hid hB2
  clear hW2 hA2 hZ2 hB2
  go_wp2_with (first | (refine wpList_ldS (flC { f with hi := v }) _ HA2.out (by rfl) rfl rfl Try.underlying25 rfl r13fl_size rfl ?_) | (go_at_call 30; (with_reducible refine (HSU.out _).mono ?_); rintro e w7 ⟨rfl, hb⟩; have BL7 := Lib.hid hb; clear hb) | (refine wpList_stS (z := flC fl0) (flC { f with hi := v }) _ _ (HZ2.out.keep BL7.out) rfl rfl rfl rfl r13fl_size rfl rfl (fl_one _) ?_; intro w3 hA3 hT3; have HR3 := Lib.hid hA3; have TR3 := Lib.hid hT3; clear hA3 hT3))
  have HB7 := Lib.hid (HB2.out.trans (BL7.out.mono HB2.out.size))
  exact bodyPost_ret (res_S2 (v := .bool true) Try.results14 Try.underlying25 r13fl_size rfl _ rfl rfl HR3.out) rfl ⟨rfl, HB7.out.trans (TR3.out.below (B := w.heap.size) (fun k hk => by unfold Just at hk; omega) HB7.out.size)⟩

set_option maxHeartbeats 1000000 in
theorem r13wr_none (f : FileM) (n p : Int) (v : BitVec 32) (w : World) (h : wrIs n p = false) : Calls Try.prog 14 #[.agg (flC f).toArray, .int .i64 n, .int .i64 p, .int .u32 (U v)] w fun e w' => e = .returned (.tuple #[.agg (flC f).toArray, .bool false]) ∧ Below w.heap.size w w' := by
  have HRD := Lib.hid (fun W => r13read_any f n p W)
  by_cases hr : rdIs n p = true
  · have hk : knIs n = true := by
      unfold rdIs at hr
      simp only [Bool.and_eq_true] at hr
      exact hr.1
    have hb := r13num_b hk
    have h3 : n / 1024 % 4 = 3 := by
      unfold wrIs at h
      rw [hr] at h
      simpa using h
    have h1 : n.tdiv 1024 = n / 1024 := Int.tdiv_eq_ediv_of_nonneg hb.1
    have h2 : (n / 1024).tmod 4 = n / 1024 % 4 := Int.tmod_eq_emod_of_nonneg (by omega)
    have h4 : wrap64 (n / 1024) = n / 1024 := by unfold wrap64; omega
    rw [h3] at h2
    obtain ⟨t, ht⟩ : ∃ t, t = n / 1024 := ⟨_, rfl⟩
    rw [← ht] at h1 h2 h4
    rw [hr] at HRD
    generalize rdM f n p = q at *
    clear h hr hk hb h3 ht
    go_enter Try.func14, Try.ntmps14
    go_upto_region 1 with (fail)
    obtain ⟨W1, hW1⟩ : ∃ W, W = (w.alloc (.cells (flC f).toArray 25)).alloc (.cells (flC fl0).toArray 25) := ⟨_, rfl⟩
    have hB := below_two w (.cells (flC f).toArray 25) (.cells (flC fl0).toArray 25)
    have hA : At W1 w.heap.size 25 (flC f) := by rw [hW1]; exact (At.news w 25 (flC f)).alloc _
    have hZ : At W1 (w.heap.size + 1) 25 (flC fl0) := by rw [hW1]; exact At.alloc_new _ 25 (flC fl0) (by simp) rfl
    rw [← hW1] at hB
    first | rw [← hW1] | (change Code.wp _ _ _ _ ((w.alloc (.cells (flC f).toArray 25)).alloc (.cells (flC fl0).toArray 25)); rw [← hW1])
    have HB := Lib.hid hB
    have HA := Lib.hid hA
    have HZ := Lib.hid hZ
    clear hW1 hB hA hZ
    go_upto_region 2 with (first | (refine wpList_ldS (flC f) _ HA.out (by rfl) rfl rfl Try.underlying25 rfl r13fl_size rfl ?_) | (go_at_call 12; (with_reducible refine (HRD.out _).mono ?_); rintro e w6 ⟨rfl, hb⟩; have BL := Lib.hid hb; clear hb))
    have hA6 := HA.out.keep BL.out
    have hZ6 := HZ.out.keep BL.out
    have hB6 := HB.out.trans (BL.out.mono HB.out.size)
    have HA6 := Lib.hid hA6
    have HZ6 := Lib.hid hZ6
    have HB6 := Lib.hid hB6
    clear hA6 hZ6 hB6 HA HZ HB BL
    go_wp2_with (first | (refine wpList_ldS (flC f) _ HA6.out (by rfl) rfl rfl Try.underlying25 rfl r13fl_size rfl ?_) | (refine wpList_stS (z := flC fl0) (flC f) _ _ HZ6.out rfl rfl rfl rfl r13fl_size rfl rfl (fl_one _) ?_; intro w3 hA3 hT3; have HR3 := Lib.hid hA3; have TR3 := Lib.hid hT3; clear hA3 hT3))
    exact bodyPost_ret (res_S2 (v := .bool false) Try.results14 Try.underlying25 r13fl_size rfl _ rfl rfl HR3.out) rfl ⟨rfl, HB6.out.trans (TR3.out.below (B := w.heap.size) (fun k hk => by unfold Just at hk; omega) HB6.out.size)⟩
  · have hf : rdIs n p = false := by simpa using hr
    rw [hf] at HRD
    generalize rdM f n p = q at *
    clear h hr hf
    go_enter Try.func14, Try.ntmps14
    go_upto_region 1 with (fail)
    obtain ⟨W1, hW1⟩ : ∃ W, W = (w.alloc (.cells (flC f).toArray 25)).alloc (.cells (flC fl0).toArray 25) := ⟨_, rfl⟩
    have hB := below_two w (.cells (flC f).toArray 25) (.cells (flC fl0).toArray 25)
    have hA : At W1 w.heap.size 25 (flC f) := by rw [hW1]; exact (At.news w 25 (flC f)).alloc _
    have hZ : At W1 (w.heap.size + 1) 25 (flC fl0) := by rw [hW1]; exact At.alloc_new _ 25 (flC fl0) (by simp) rfl
    rw [← hW1] at hB
    first | rw [← hW1] | (change Code.wp _ _ _ _ ((w.alloc (.cells (flC f).toArray 25)).alloc (.cells (flC fl0).toArray 25)); rw [← hW1])
    have HB := Lib.hid hB
    have HA := Lib.hid hA
    have HZ := Lib.hid hZ
    clear hW1 hB hA hZ
    go_upto_region 2 with (first | (refine wpList_ldS (flC f) _ HA.out (by rfl) rfl rfl Try.underlying25 rfl r13fl_size rfl ?_) | (go_at_call 12; (with_reducible refine (HRD.out _).mono ?_); rintro e w6 ⟨rfl, hb⟩; have BL := Lib.hid hb; clear hb))
    have hA6 := HA.out.keep BL.out
    have hZ6 := HZ.out.keep BL.out
    have hB6 := HB.out.trans (BL.out.mono HB.out.size)
    have HA6 := Lib.hid hA6
    have HZ6 := Lib.hid hZ6
    have HB6 := Lib.hid hB6
    clear hA6 hZ6 hB6 HA HZ HB BL
    go_wp2_with (first | (refine wpList_ldS (flC f) _ HA6.out (by rfl) rfl rfl Try.underlying25 rfl r13fl_size rfl ?_) | (refine wpList_stS (z := flC fl0) (flC f) _ _ HZ6.out rfl rfl rfl rfl r13fl_size rfl rfl (fl_one _) ?_; intro w3 hA3 hT3; have HR3 := Lib.hid hA3; have TR3 := Lib.hid hT3; clear hA3 hT3))
    exact bodyPost_ret (res_S2 (v := .bool false) Try.results14 Try.underlying25 r13fl_size rfl _ rfl rfl HR3.out) rfl ⟨rfl, HB6.out.trans (TR3.out.below (B := w.heap.size) (fun k hk => by unfold Just at hk; omega) HB6.out.size)⟩

theorem r13write_any (f : FileM) (n p : Int) (v : BitVec 32) (w : World) : Calls Try.prog 14 #[.agg (flC f).toArray, .int .i64 n, .int .i64 p, .int .u32 (U v)] w fun e w' => e = .returned (.tuple #[.agg (flC (wrM f n p v)).toArray, .bool (wrIs n p)]) ∧ Below w.heap.size w w' := by
  by_cases h : wrIs n p = true
  · have e : wrM f n p v = wrF f n v := by unfold wrM; rw [h]; rfl
    rw [e, h]
    have hr : rdIs n p = true ∧ ¬ n / 1024 % 4 = 3 := by
      unfold wrIs at h
      simpa using h
    have hk : knIs n = true := by
      have := hr.1
      unfold rdIs at this
      simp only [Bool.and_eq_true] at this
      exact this.1
    have c : n = 256 ∨ n = 260 ∨ n = 261 ∨ n = 320 ∨ n = 321 ∨ n = 322 ∨ n = 323 ∨ n = 324 ∨ n = 384 ∨ n = 768 ∨ n = 769 ∨ n = 770 ∨ n = 771 ∨ n = 772 ∨ n = 773 ∨ n = 832 ∨ n = 833 ∨ n = 834 ∨ n = 835 ∨ n = 836 ∨ n = 2816 ∨ n = 2944 ∨ n = 3072 ∨ n = 3200 ∨ n = 3857 ∨ n = 3858 ∨ n = 3859 ∨ n = 3860 := by simpa [knIs, numL] using hk
    rcases c with rfl | rfl | rfl | rfl | rfl | rfl | rfl | rfl | rfl | rfl | rfl | rfl | rfl | rfl | rfl | rfl | rfl | rfl | rfl | rfl | rfl | rfl | rfl | rfl | rfl | rfl | rfl | rfl
    · exact r13wr_256 f p v w hr.1
    · exact r13wr_260 f p v w hr.1
    · exact r13wr_261 f p v w hr.1
    · exact r13wr_320 f p v w hr.1
    · exact r13wr_321 f p v w hr.1
    · exact r13wr_322 f p v w hr.1
    · exact r13wr_323 f p v w hr.1
    · exact r13wr_324 f p v w hr.1
    · exact r13wr_384 f p v w hr.1
    · exact r13wr_768 f p v w hr.1
    · exact r13wr_769 f p v w hr.1
    · exact r13wr_770 f p v w hr.1
    · exact r13wr_771 f p v w hr.1
    · exact r13wr_772 f p v w hr.1
    · exact r13wr_773 f p v w hr.1
    · exact r13wr_832 f p v w hr.1
    · exact r13wr_833 f p v w hr.1
    · exact r13wr_834 f p v w hr.1
    · exact r13wr_835 f p v w hr.1
    · exact r13wr_836 f p v w hr.1
    · exact r13wr_2816 f p v w hr.1
    · exact r13wr_2944 f p v w hr.1
    · exact absurd (by decide) hr.2
    · exact absurd (by decide) hr.2
    · exact absurd (by decide) hr.2
    · exact absurd (by decide) hr.2
    · exact absurd (by decide) hr.2
    · exact absurd (by decide) hr.2
  · have hn : wrIs n p = false := by simpa using h
    have e : wrM f n p v = f := by unfold wrM; rw [hn]; rfl
    rw [e, hn]
    exact r13wr_none f n p v w hn

theorem r13lines_any (f : FileM) (l : BitVec 32) (w : World) : Calls Try.prog 16 #[.agg (flC f).toArray, .int .u32 (U l)] w fun e w' => e = .returned (.agg (flC (lnM f l)).toArray) ∧ Below w.heap.size w w' := by
  have HM : Hid (∀ W, Calls Try.prog 29 #[.int .u32 (U f.mip), .int .u32 (U l), .int .u32 2184] W fun e w' => e = .returned (.int .u32 (U (maskB f.mip l 2184#32))) ∧ w' = W) := Lib.hid (fun W => r13mask_any f.mip l 2184#32 W)
  go_enter Try.func16, Try.ntmps16
  go_upto_region 1 with (fail)
  obtain ⟨W1, hW1⟩ : ∃ W, W = (w.alloc (.cells (flC f).toArray 25)).alloc (.cells (flC fl0).toArray 25) := ⟨_, rfl⟩
  have hB := below_two w (.cells (flC f).toArray 25) (.cells (flC fl0).toArray 25)
  have hA : At W1 w.heap.size 25 (flC f) := by rw [hW1]; exact (At.news w 25 (flC f)).alloc _
  have hZ : At W1 (w.heap.size + 1) 25 (flC fl0) := by rw [hW1]; exact At.alloc_new _ 25 (flC fl0) (by simp) rfl
  rw [← hW1] at hB
  first | rw [← hW1] | (change Code.wp _ _ _ _ ((w.alloc (.cells (flC f).toArray 25)).alloc (.cells (flC fl0).toArray 25)); rw [← hW1])
  have HB := Lib.hid hB
  have HA := Lib.hid hA
  have HZ := Lib.hid hZ
  clear hW1 hB hA hZ
  have c_mip : W1.cell? ⟨w.heap.size, 4, none⟩ = some (.int .u32 (U f.mip)) := HA.out.cell 4
  have f_4 : W1.frozen? ⟨w.heap.size, 4, none⟩ = false := HA.out.frozen 4
  go_upto_region 2 with (go_at_call 29; (with_reducible refine (HM.out _).mono ?_); rintro e w5 ⟨rfl, hq⟩; replace hq := hq.symm; subst hq)
  obtain ⟨W2, hW2⟩ : ∃ W, W = W1.setCell ⟨w.heap.size, 4, none⟩ (.int .u32 (U (maskB f.mip l 2184#32))) := ⟨_, rfl⟩
  have hA2 : At W2 w.heap.size 25 (flC (lnM f l)) := by rw [hW2]; exact (HA.out.put 4 (.int .u32 (U (maskB f.mip l 2184#32)))).as rfl
  have hZ2 : At W2 (w.heap.size + 1) 25 (flC fl0) := by rw [hW2]; exact HZ.out.far (by simp) _
  have hB2 : Below w.heap.size w W2 := by rw [hW2]; exact HB.out.setCell (Nat.le_refl _) _
  first | rw [← hW2] | (change Code.wp _ _ _ _ (W1.setCell ⟨w.heap.size, 4, none⟩ (.int .u32 (U (maskB f.mip l 2184#32)))); rw [← hW2])
  have HA2 := Lib.hid hA2
  have HZ2 := Lib.hid hZ2
  have HB2 := Lib.hid hB2
  clear hW2 hA2 hZ2 hB2
  go_wp2_with (first | (refine wpList_ldS (flC (lnM f l)) _ HA2.out (by rfl) rfl rfl Try.underlying25 rfl r13fl_size rfl ?_) | (refine wpList_stS (z := flC fl0) (flC (lnM f l)) _ _ HZ2.out rfl rfl rfl rfl r13fl_size rfl rfl (fl_one _) ?_; intro w3 hA3 hT3; have HR3 := Lib.hid hA3; have TR3 := Lib.hid hT3; clear hA3 hT3))
  exact bodyPost_ret (res_S1 Try.results16 Try.underlying25 r13fl_size rfl _ rfl HR3.out) rfl ⟨rfl, HB2.out.trans (TR3.out.below (B := w.heap.size) (fun k hk => by unfold Just at hk; omega) HB2.out.size)⟩

end Go.Proofs.Ytedpeojgpnnddaa
