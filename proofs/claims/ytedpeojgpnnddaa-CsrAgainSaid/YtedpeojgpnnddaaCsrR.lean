/- The document's answers of layer csr. -/
import Derived.Test.YtedpeojgpnnddaaCsrF
import Derived.Test.YtedpeojgpnnddaaSt
import Derived.Deep.DeepCutAuto
namespace Go.Proofs.Ytedpeojgpnnddaa
open Go.RowKit Bm

theorem r13kn_256 (f : FileM) (w : World) : Calls Try.prog 23 #[.agg (flC f).toArray, .int .i64 256] w fun e w' => e = .returned (.tuple #[.int .u32 (U (knM f 256)), .bool true]) ∧ Below w.heap.size w w' := by
  rw [knM_256]
  go_enter Try.func23, Try.ntmps23
  go_upto_region 1 with (fail)
  obtain ⟨W1, hW1⟩ : ∃ W, W = w.alloc (.cells (flC f).toArray 25) := ⟨_, rfl⟩
  have hB := (Below.refl w.heap.size w).alloc (Nat.le_refl _) (.cells (flC f).toArray 25)
  have hA : At W1 w.heap.size 25 (flC f) := by rw [hW1]; exact At.news w 25 (flC f)
  rw [← hW1] at hB
  try rw [← hW1]
  have HB := Lib.hid hB
  have c_st : W1.cell? ⟨w.heap.size, 0, none⟩ = some (.int .u32 (U f.st)) := hA.cell 0
  have hm : bits .and .u32 (U f.st) 786722 = U (f.st &&& 786722#32) := U_and f.st 786722#32
  clear hW1 hA hB
  go_wp2
  go_ret2
  exact ⟨rfl, HB.out⟩

theorem r13kn_260 (f : FileM) (w : World) : Calls Try.prog 23 #[.agg (flC f).toArray, .int .i64 260] w fun e w' => e = .returned (.tuple #[.int .u32 (U (knM f 260)), .bool true]) ∧ Below w.heap.size w w' := by
  rw [knM_260]
  go_enter Try.func23, Try.ntmps23
  go_upto_region 1 with (fail)
  obtain ⟨W1, hW1⟩ : ∃ W, W = w.alloc (.cells (flC f).toArray 25) := ⟨_, rfl⟩
  have hB := (Below.refl w.heap.size w).alloc (Nat.le_refl _) (.cells (flC f).toArray 25)
  have hA : At W1 w.heap.size 25 (flC f) := by rw [hW1]; exact At.news w 25 (flC f)
  rw [← hW1] at hB
  try rw [← hW1]
  have HB := Lib.hid hB
  have c_mie : W1.cell? ⟨w.heap.size, 3, none⟩ = some (.int .u32 (U f.mie)) := hA.cell 3
  have c_ml : W1.cell? ⟨w.heap.size, 2, none⟩ = some (.int .u32 (U f.ml)) := hA.cell 2
  clear hW1 hA hB
  go_wp2
  go_ret2
  exact ⟨rfl, HB.out⟩

theorem r13kn_261 (f : FileM) (w : World) : Calls Try.prog 23 #[.agg (flC f).toArray, .int .i64 261] w fun e w' => e = .returned (.tuple #[.int .u32 (U (knM f 261)), .bool true]) ∧ Below w.heap.size w w' := by
  rw [knM_261]
  go_enter Try.func23, Try.ntmps23
  go_upto_region 1 with (fail)
  obtain ⟨W1, hW1⟩ : ∃ W, W = w.alloc (.cells (flC f).toArray 25) := ⟨_, rfl⟩
  have hB := (Below.refl w.heap.size w).alloc (Nat.le_refl _) (.cells (flC f).toArray 25)
  have hA : At W1 w.heap.size 25 (flC f) := by rw [hW1]; exact At.news w 25 (flC f)
  rw [← hW1] at hB
  try rw [← hW1]
  have HB := Lib.hid hB
  have c_stvec : W1.cell? ⟨w.heap.size, 10, none⟩ = some (.int .u32 (U f.stvec)) := hA.cell 10
  clear hW1 hA hB
  go_wp2
  go_ret2
  exact ⟨rfl, HB.out⟩

theorem r13kn_320 (f : FileM) (w : World) : Calls Try.prog 23 #[.agg (flC f).toArray, .int .i64 320] w fun e w' => e = .returned (.tuple #[.int .u32 (U (knM f 320)), .bool true]) ∧ Below w.heap.size w w' := by
  rw [knM_320]
  go_enter Try.func23, Try.ntmps23
  go_upto_region 1 with (fail)
  obtain ⟨W1, hW1⟩ : ∃ W, W = w.alloc (.cells (flC f).toArray 25) := ⟨_, rfl⟩
  have hB := (Below.refl w.heap.size w).alloc (Nat.le_refl _) (.cells (flC f).toArray 25)
  have hA : At W1 w.heap.size 25 (flC f) := by rw [hW1]; exact At.news w 25 (flC f)
  rw [← hW1] at hB
  try rw [← hW1]
  have HB := Lib.hid hB
  have c_sscr : W1.cell? ⟨w.heap.size, 11, none⟩ = some (.int .u32 (U f.sscr)) := hA.cell 11
  clear hW1 hA hB
  go_wp2
  go_ret2
  exact ⟨rfl, HB.out⟩

theorem r13kn_321 (f : FileM) (w : World) : Calls Try.prog 23 #[.agg (flC f).toArray, .int .i64 321] w fun e w' => e = .returned (.tuple #[.int .u32 (U (knM f 321)), .bool true]) ∧ Below w.heap.size w w' := by
  rw [knM_321]
  go_enter Try.func23, Try.ntmps23
  go_upto_region 1 with (fail)
  obtain ⟨W1, hW1⟩ : ∃ W, W = w.alloc (.cells (flC f).toArray 25) := ⟨_, rfl⟩
  have hB := (Below.refl w.heap.size w).alloc (Nat.le_refl _) (.cells (flC f).toArray 25)
  have hA : At W1 w.heap.size 25 (flC f) := by rw [hW1]; exact At.news w 25 (flC f)
  rw [← hW1] at hB
  try rw [← hW1]
  have HB := Lib.hid hB
  have c_sepc : W1.cell? ⟨w.heap.size, 12, none⟩ = some (.int .u32 (U f.sepc)) := hA.cell 12
  clear hW1 hA hB
  go_wp2
  go_ret2
  exact ⟨rfl, HB.out⟩

theorem r13kn_322 (f : FileM) (w : World) : Calls Try.prog 23 #[.agg (flC f).toArray, .int .i64 322] w fun e w' => e = .returned (.tuple #[.int .u32 (U (knM f 322)), .bool true]) ∧ Below w.heap.size w w' := by
  rw [knM_322]
  go_enter Try.func23, Try.ntmps23
  go_upto_region 1 with (fail)
  obtain ⟨W1, hW1⟩ : ∃ W, W = w.alloc (.cells (flC f).toArray 25) := ⟨_, rfl⟩
  have hB := (Below.refl w.heap.size w).alloc (Nat.le_refl _) (.cells (flC f).toArray 25)
  have hA : At W1 w.heap.size 25 (flC f) := by rw [hW1]; exact At.news w 25 (flC f)
  rw [← hW1] at hB
  try rw [← hW1]
  have HB := Lib.hid hB
  have c_scause : W1.cell? ⟨w.heap.size, 13, none⟩ = some (.int .u32 (U f.scause)) := hA.cell 13
  clear hW1 hA hB
  go_wp2
  go_ret2
  exact ⟨rfl, HB.out⟩

theorem r13kn_323 (f : FileM) (w : World) : Calls Try.prog 23 #[.agg (flC f).toArray, .int .i64 323] w fun e w' => e = .returned (.tuple #[.int .u32 (U (knM f 323)), .bool true]) ∧ Below w.heap.size w w' := by
  rw [knM_323]
  go_enter Try.func23, Try.ntmps23
  go_upto_region 1 with (fail)
  obtain ⟨W1, hW1⟩ : ∃ W, W = w.alloc (.cells (flC f).toArray 25) := ⟨_, rfl⟩
  have hB := (Below.refl w.heap.size w).alloc (Nat.le_refl _) (.cells (flC f).toArray 25)
  have hA : At W1 w.heap.size 25 (flC f) := by rw [hW1]; exact At.news w 25 (flC f)
  rw [← hW1] at hB
  try rw [← hW1]
  have HB := Lib.hid hB
  have c_stval : W1.cell? ⟨w.heap.size, 14, none⟩ = some (.int .u32 (U f.stval)) := hA.cell 14
  clear hW1 hA hB
  go_wp2
  go_ret2
  exact ⟨rfl, HB.out⟩

theorem r13kn_324 (f : FileM) (w : World) : Calls Try.prog 23 #[.agg (flC f).toArray, .int .i64 324] w fun e w' => e = .returned (.tuple #[.int .u32 (U (knM f 324)), .bool true]) ∧ Below w.heap.size w w' := by
  rw [knM_324]
  go_enter Try.func23, Try.ntmps23
  go_upto_region 1 with (fail)
  obtain ⟨W1, hW1⟩ : ∃ W, W = w.alloc (.cells (flC f).toArray 25) := ⟨_, rfl⟩
  have hB := (Below.refl w.heap.size w).alloc (Nat.le_refl _) (.cells (flC f).toArray 25)
  have hA : At W1 w.heap.size 25 (flC f) := by rw [hW1]; exact At.news w 25 (flC f)
  rw [← hW1] at hB
  try rw [← hW1]
  have HB := Lib.hid hB
  have c_mip : W1.cell? ⟨w.heap.size, 4, none⟩ = some (.int .u32 (U f.mip)) := hA.cell 4
  have c_ml : W1.cell? ⟨w.heap.size, 2, none⟩ = some (.int .u32 (U f.ml)) := hA.cell 2
  clear hW1 hA hB
  go_wp2
  go_ret2
  exact ⟨rfl, HB.out⟩

theorem r13kn_384 (f : FileM) (w : World) : Calls Try.prog 23 #[.agg (flC f).toArray, .int .i64 384] w fun e w' => e = .returned (.tuple #[.int .u32 (U (knM f 384)), .bool true]) ∧ Below w.heap.size w w' := by
  rw [knM_384]
  go_enter Try.func23, Try.ntmps23
  go_upto_region 1 with (fail)
  obtain ⟨W1, hW1⟩ : ∃ W, W = w.alloc (.cells (flC f).toArray 25) := ⟨_, rfl⟩
  have hB := (Below.refl w.heap.size w).alloc (Nat.le_refl _) (.cells (flC f).toArray 25)
  have hA : At W1 w.heap.size 25 (flC f) := by rw [hW1]; exact At.news w 25 (flC f)
  rw [← hW1] at hB
  try rw [← hW1]
  have HB := Lib.hid hB
  have c_satp : W1.cell? ⟨w.heap.size, 15, none⟩ = some (.int .u32 (U f.satp)) := hA.cell 15
  clear hW1 hA hB
  go_wp2
  go_ret2
  exact ⟨rfl, HB.out⟩

theorem r13mc_768 (f : FileM) (w : World) : Calls Try.prog 31 #[.agg (flC f).toArray, .int .i64 768] w fun e w' => e = .returned (.tuple #[.int .u32 (U (knM f 768)), .bool true]) ∧ Below w.heap.size w w' := by
  rw [knM_768]
  go_enter Try.func31, Try.ntmps31
  go_upto_region 1 with (fail)
  obtain ⟨W1, hW1⟩ : ∃ W, W = w.alloc (.cells (flC f).toArray 25) := ⟨_, rfl⟩
  have hB := (Below.refl w.heap.size w).alloc (Nat.le_refl _) (.cells (flC f).toArray 25)
  have hA : At W1 w.heap.size 25 (flC f) := by rw [hW1]; exact At.news w 25 (flC f)
  rw [← hW1] at hB
  try rw [← hW1]
  have HB := Lib.hid hB
  have c_st : W1.cell? ⟨w.heap.size, 0, none⟩ = some (.int .u32 (U f.st)) := hA.cell 0
  clear hW1 hA hB
  go_wp2
  go_ret2
  exact ⟨rfl, HB.out⟩

theorem r13mc_769 (f : FileM) (w : World) : Calls Try.prog 31 #[.agg (flC f).toArray, .int .i64 769] w fun e w' => e = .returned (.tuple #[.int .u32 (U (knM f 769)), .bool true]) ∧ Below w.heap.size w w' := by
  rw [knM_769]
  go_enter Try.func31, Try.ntmps31
  go_upto_region 1 with (fail)
  obtain ⟨W1, hW1⟩ : ∃ W, W = w.alloc (.cells (flC f).toArray 25) := ⟨_, rfl⟩
  have hB := (Below.refl w.heap.size w).alloc (Nat.le_refl _) (.cells (flC f).toArray 25)
  have hA : At W1 w.heap.size 25 (flC f) := by rw [hW1]; exact At.news w 25 (flC f)
  rw [← hW1] at hB
  try rw [← hW1]
  have HB := Lib.hid hB
  clear hW1 hA hB
  go_wp2
  go_ret2
  exact ⟨rfl, HB.out⟩

theorem r13mc_770 (f : FileM) (w : World) : Calls Try.prog 31 #[.agg (flC f).toArray, .int .i64 770] w fun e w' => e = .returned (.tuple #[.int .u32 (U (knM f 770)), .bool true]) ∧ Below w.heap.size w w' := by
  rw [knM_770]
  go_enter Try.func31, Try.ntmps31
  go_upto_region 1 with (fail)
  obtain ⟨W1, hW1⟩ : ∃ W, W = w.alloc (.cells (flC f).toArray 25) := ⟨_, rfl⟩
  have hB := (Below.refl w.heap.size w).alloc (Nat.le_refl _) (.cells (flC f).toArray 25)
  have hA : At W1 w.heap.size 25 (flC f) := by rw [hW1]; exact At.news w 25 (flC f)
  rw [← hW1] at hB
  try rw [← hW1]
  have HB := Lib.hid hB
  have c_md : W1.cell? ⟨w.heap.size, 1, none⟩ = some (.int .u32 (U f.md)) := hA.cell 1
  clear hW1 hA hB
  go_wp2
  go_ret2
  exact ⟨rfl, HB.out⟩

theorem r13mc_771 (f : FileM) (w : World) : Calls Try.prog 31 #[.agg (flC f).toArray, .int .i64 771] w fun e w' => e = .returned (.tuple #[.int .u32 (U (knM f 771)), .bool true]) ∧ Below w.heap.size w w' := by
  rw [knM_771]
  go_enter Try.func31, Try.ntmps31
  go_upto_region 1 with (fail)
  obtain ⟨W1, hW1⟩ : ∃ W, W = w.alloc (.cells (flC f).toArray 25) := ⟨_, rfl⟩
  have hB := (Below.refl w.heap.size w).alloc (Nat.le_refl _) (.cells (flC f).toArray 25)
  have hA : At W1 w.heap.size 25 (flC f) := by rw [hW1]; exact At.news w 25 (flC f)
  rw [← hW1] at hB
  try rw [← hW1]
  have HB := Lib.hid hB
  have c_ml : W1.cell? ⟨w.heap.size, 2, none⟩ = some (.int .u32 (U f.ml)) := hA.cell 2
  clear hW1 hA hB
  go_wp2
  go_ret2
  exact ⟨rfl, HB.out⟩

theorem r13mc_772 (f : FileM) (w : World) : Calls Try.prog 31 #[.agg (flC f).toArray, .int .i64 772] w fun e w' => e = .returned (.tuple #[.int .u32 (U (knM f 772)), .bool true]) ∧ Below w.heap.size w w' := by
  rw [knM_772]
  go_enter Try.func31, Try.ntmps31
  go_upto_region 1 with (fail)
  obtain ⟨W1, hW1⟩ : ∃ W, W = w.alloc (.cells (flC f).toArray 25) := ⟨_, rfl⟩
  have hB := (Below.refl w.heap.size w).alloc (Nat.le_refl _) (.cells (flC f).toArray 25)
  have hA : At W1 w.heap.size 25 (flC f) := by rw [hW1]; exact At.news w 25 (flC f)
  rw [← hW1] at hB
  try rw [← hW1]
  have HB := Lib.hid hB
  have c_mie : W1.cell? ⟨w.heap.size, 3, none⟩ = some (.int .u32 (U f.mie)) := hA.cell 3
  clear hW1 hA hB
  go_wp2
  go_ret2
  exact ⟨rfl, HB.out⟩

theorem r13mc_773 (f : FileM) (w : World) : Calls Try.prog 31 #[.agg (flC f).toArray, .int .i64 773] w fun e w' => e = .returned (.tuple #[.int .u32 (U (knM f 773)), .bool true]) ∧ Below w.heap.size w w' := by
  rw [knM_773]
  go_enter Try.func31, Try.ntmps31
  go_upto_region 1 with (fail)
  obtain ⟨W1, hW1⟩ : ∃ W, W = w.alloc (.cells (flC f).toArray 25) := ⟨_, rfl⟩
  have hB := (Below.refl w.heap.size w).alloc (Nat.le_refl _) (.cells (flC f).toArray 25)
  have hA : At W1 w.heap.size 25 (flC f) := by rw [hW1]; exact At.news w 25 (flC f)
  rw [← hW1] at hB
  try rw [← hW1]
  have HB := Lib.hid hB
  have c_mtvec : W1.cell? ⟨w.heap.size, 5, none⟩ = some (.int .u32 (U f.mtvec)) := hA.cell 5
  clear hW1 hA hB
  go_wp2
  go_ret2
  exact ⟨rfl, HB.out⟩

theorem r13mc_832 (f : FileM) (w : World) : Calls Try.prog 31 #[.agg (flC f).toArray, .int .i64 832] w fun e w' => e = .returned (.tuple #[.int .u32 (U (knM f 832)), .bool true]) ∧ Below w.heap.size w w' := by
  rw [knM_832]
  go_enter Try.func31, Try.ntmps31
  go_upto_region 1 with (fail)
  obtain ⟨W1, hW1⟩ : ∃ W, W = w.alloc (.cells (flC f).toArray 25) := ⟨_, rfl⟩
  have hB := (Below.refl w.heap.size w).alloc (Nat.le_refl _) (.cells (flC f).toArray 25)
  have hA : At W1 w.heap.size 25 (flC f) := by rw [hW1]; exact At.news w 25 (flC f)
  rw [← hW1] at hB
  try rw [← hW1]
  have HB := Lib.hid hB
  have c_mscr : W1.cell? ⟨w.heap.size, 6, none⟩ = some (.int .u32 (U f.mscr)) := hA.cell 6
  clear hW1 hA hB
  go_wp2
  go_ret2
  exact ⟨rfl, HB.out⟩

theorem r13mc_833 (f : FileM) (w : World) : Calls Try.prog 31 #[.agg (flC f).toArray, .int .i64 833] w fun e w' => e = .returned (.tuple #[.int .u32 (U (knM f 833)), .bool true]) ∧ Below w.heap.size w w' := by
  rw [knM_833]
  go_enter Try.func31, Try.ntmps31
  go_upto_region 1 with (fail)
  obtain ⟨W1, hW1⟩ : ∃ W, W = w.alloc (.cells (flC f).toArray 25) := ⟨_, rfl⟩
  have hB := (Below.refl w.heap.size w).alloc (Nat.le_refl _) (.cells (flC f).toArray 25)
  have hA : At W1 w.heap.size 25 (flC f) := by rw [hW1]; exact At.news w 25 (flC f)
  rw [← hW1] at hB
  try rw [← hW1]
  have HB := Lib.hid hB
  have c_mepc : W1.cell? ⟨w.heap.size, 7, none⟩ = some (.int .u32 (U f.mepc)) := hA.cell 7
  clear hW1 hA hB
  go_wp2
  go_ret2
  exact ⟨rfl, HB.out⟩

theorem r13mc_834 (f : FileM) (w : World) : Calls Try.prog 31 #[.agg (flC f).toArray, .int .i64 834] w fun e w' => e = .returned (.tuple #[.int .u32 (U (knM f 834)), .bool true]) ∧ Below w.heap.size w w' := by
  rw [knM_834]
  go_enter Try.func31, Try.ntmps31
  go_upto_region 1 with (fail)
  obtain ⟨W1, hW1⟩ : ∃ W, W = w.alloc (.cells (flC f).toArray 25) := ⟨_, rfl⟩
  have hB := (Below.refl w.heap.size w).alloc (Nat.le_refl _) (.cells (flC f).toArray 25)
  have hA : At W1 w.heap.size 25 (flC f) := by rw [hW1]; exact At.news w 25 (flC f)
  rw [← hW1] at hB
  try rw [← hW1]
  have HB := Lib.hid hB
  have c_mcause : W1.cell? ⟨w.heap.size, 8, none⟩ = some (.int .u32 (U f.mcause)) := hA.cell 8
  clear hW1 hA hB
  go_wp2
  go_ret2
  exact ⟨rfl, HB.out⟩

theorem r13mc_835 (f : FileM) (w : World) : Calls Try.prog 31 #[.agg (flC f).toArray, .int .i64 835] w fun e w' => e = .returned (.tuple #[.int .u32 (U (knM f 835)), .bool true]) ∧ Below w.heap.size w w' := by
  rw [knM_835]
  go_enter Try.func31, Try.ntmps31
  go_upto_region 1 with (fail)
  obtain ⟨W1, hW1⟩ : ∃ W, W = w.alloc (.cells (flC f).toArray 25) := ⟨_, rfl⟩
  have hB := (Below.refl w.heap.size w).alloc (Nat.le_refl _) (.cells (flC f).toArray 25)
  have hA : At W1 w.heap.size 25 (flC f) := by rw [hW1]; exact At.news w 25 (flC f)
  rw [← hW1] at hB
  try rw [← hW1]
  have HB := Lib.hid hB
  have c_mtval : W1.cell? ⟨w.heap.size, 9, none⟩ = some (.int .u32 (U f.mtval)) := hA.cell 9
  clear hW1 hA hB
  go_wp2
  go_ret2
  exact ⟨rfl, HB.out⟩

theorem r13mc_836 (f : FileM) (w : World) : Calls Try.prog 31 #[.agg (flC f).toArray, .int .i64 836] w fun e w' => e = .returned (.tuple #[.int .u32 (U (knM f 836)), .bool true]) ∧ Below w.heap.size w w' := by
  rw [knM_836]
  go_enter Try.func31, Try.ntmps31
  go_upto_region 1 with (fail)
  obtain ⟨W1, hW1⟩ : ∃ W, W = w.alloc (.cells (flC f).toArray 25) := ⟨_, rfl⟩
  have hB := (Below.refl w.heap.size w).alloc (Nat.le_refl _) (.cells (flC f).toArray 25)
  have hA : At W1 w.heap.size 25 (flC f) := by rw [hW1]; exact At.news w 25 (flC f)
  rw [← hW1] at hB
  try rw [← hW1]
  have HB := Lib.hid hB
  have c_mip : W1.cell? ⟨w.heap.size, 4, none⟩ = some (.int .u32 (U f.mip)) := hA.cell 4
  clear hW1 hA hB
  go_wp2
  go_ret2
  exact ⟨rfl, HB.out⟩

theorem r13mc_2816 (f : FileM) (w : World) : Calls Try.prog 31 #[.agg (flC f).toArray, .int .i64 2816] w fun e w' => e = .returned (.tuple #[.int .u32 (U (knM f 2816)), .bool true]) ∧ Below w.heap.size w w' := by
  rw [knM_2816]
  go_enter Try.func31, Try.ntmps31
  go_upto_region 1 with (fail)
  obtain ⟨W1, hW1⟩ : ∃ W, W = w.alloc (.cells (flC f).toArray 25) := ⟨_, rfl⟩
  have hB := (Below.refl w.heap.size w).alloc (Nat.le_refl _) (.cells (flC f).toArray 25)
  have hA : At W1 w.heap.size 25 (flC f) := by rw [hW1]; exact At.news w 25 (flC f)
  rw [← hW1] at hB
  try rw [← hW1]
  have HB := Lib.hid hB
  have c_cyc : W1.cell? ⟨w.heap.size, 16, none⟩ = some (.int .u64 f.cyc) := hA.cell 16
  have cb := cyc_b f
  have hq : f.cyc.tmod 4294967296 = U f.lo := by rw [Int.tmod_eq_emod_of_nonneg cb.1, cyc_lo]
  have hr : f.cyc % 4294967296 = U f.lo := cyc_lo f
  have hw : U f.lo % 4294967296 = U f.lo := by have := U_nonneg f.lo; have := U_lt f.lo; omega
  clear cb
  clear hW1 hA hB
  go_wp2
  go_ret2
  exact ⟨rfl, HB.out⟩

theorem r13mc_2944 (f : FileM) (w : World) : Calls Try.prog 31 #[.agg (flC f).toArray, .int .i64 2944] w fun e w' => e = .returned (.tuple #[.int .u32 (U (knM f 2944)), .bool true]) ∧ Below w.heap.size w w' := by
  rw [knM_2944]
  go_enter Try.func31, Try.ntmps31
  go_upto_region 1 with (fail)
  obtain ⟨W1, hW1⟩ : ∃ W, W = w.alloc (.cells (flC f).toArray 25) := ⟨_, rfl⟩
  have hB := (Below.refl w.heap.size w).alloc (Nat.le_refl _) (.cells (flC f).toArray 25)
  have hA : At W1 w.heap.size 25 (flC f) := by rw [hW1]; exact At.news w 25 (flC f)
  rw [← hW1] at hB
  try rw [← hW1]
  have HB := Lib.hid hB
  have c_cyc : W1.cell? ⟨w.heap.size, 16, none⟩ = some (.int .u64 f.cyc) := hA.cell 16
  have cb := cyc_b f
  have hq : f.cyc.tdiv 4294967296 = U f.hi := by rw [Int.tdiv_eq_ediv_of_nonneg cb.1, cyc_hi]
  have hr : f.cyc / 4294967296 = U f.hi := cyc_hi f
  have hw : U f.hi % 4294967296 = U f.hi := by have := U_nonneg f.hi; have := U_lt f.hi; omega
  clear cb
  clear hW1 hA hB
  go_wp2
  go_ret2
  exact ⟨rfl, HB.out⟩

theorem r13mc_3072 (f : FileM) (w : World) : Calls Try.prog 31 #[.agg (flC f).toArray, .int .i64 3072] w fun e w' => e = .returned (.tuple #[.int .u32 (U (knM f 3072)), .bool true]) ∧ Below w.heap.size w w' := by
  rw [knM_3072]
  go_enter Try.func31, Try.ntmps31
  go_upto_region 1 with (fail)
  obtain ⟨W1, hW1⟩ : ∃ W, W = w.alloc (.cells (flC f).toArray 25) := ⟨_, rfl⟩
  have hB := (Below.refl w.heap.size w).alloc (Nat.le_refl _) (.cells (flC f).toArray 25)
  have hA : At W1 w.heap.size 25 (flC f) := by rw [hW1]; exact At.news w 25 (flC f)
  rw [← hW1] at hB
  try rw [← hW1]
  have HB := Lib.hid hB
  have c_cyc : W1.cell? ⟨w.heap.size, 16, none⟩ = some (.int .u64 f.cyc) := hA.cell 16
  have cb := cyc_b f
  have hq : f.cyc.tmod 4294967296 = U f.lo := by rw [Int.tmod_eq_emod_of_nonneg cb.1, cyc_lo]
  have hr : f.cyc % 4294967296 = U f.lo := cyc_lo f
  have hw : U f.lo % 4294967296 = U f.lo := by have := U_nonneg f.lo; have := U_lt f.lo; omega
  clear cb
  clear hW1 hA hB
  go_wp2
  go_ret2
  exact ⟨rfl, HB.out⟩

theorem r13mc_3200 (f : FileM) (w : World) : Calls Try.prog 31 #[.agg (flC f).toArray, .int .i64 3200] w fun e w' => e = .returned (.tuple #[.int .u32 (U (knM f 3200)), .bool true]) ∧ Below w.heap.size w w' := by
  rw [knM_3200]
  go_enter Try.func31, Try.ntmps31
  go_upto_region 1 with (fail)
  obtain ⟨W1, hW1⟩ : ∃ W, W = w.alloc (.cells (flC f).toArray 25) := ⟨_, rfl⟩
  have hB := (Below.refl w.heap.size w).alloc (Nat.le_refl _) (.cells (flC f).toArray 25)
  have hA : At W1 w.heap.size 25 (flC f) := by rw [hW1]; exact At.news w 25 (flC f)
  rw [← hW1] at hB
  try rw [← hW1]
  have HB := Lib.hid hB
  have c_cyc : W1.cell? ⟨w.heap.size, 16, none⟩ = some (.int .u64 f.cyc) := hA.cell 16
  have cb := cyc_b f
  have hq : f.cyc.tdiv 4294967296 = U f.hi := by rw [Int.tdiv_eq_ediv_of_nonneg cb.1, cyc_hi]
  have hr : f.cyc / 4294967296 = U f.hi := cyc_hi f
  have hw : U f.hi % 4294967296 = U f.hi := by have := U_nonneg f.hi; have := U_lt f.hi; omega
  clear cb
  clear hW1 hA hB
  go_wp2
  go_ret2
  exact ⟨rfl, HB.out⟩

theorem r13mc_3857 (f : FileM) (w : World) : Calls Try.prog 31 #[.agg (flC f).toArray, .int .i64 3857] w fun e w' => e = .returned (.tuple #[.int .u32 (U (knM f 3857)), .bool true]) ∧ Below w.heap.size w w' := by
  rw [knM_3857]
  go_enter Try.func31, Try.ntmps31
  go_upto_region 1 with (fail)
  obtain ⟨W1, hW1⟩ : ∃ W, W = w.alloc (.cells (flC f).toArray 25) := ⟨_, rfl⟩
  have hB := (Below.refl w.heap.size w).alloc (Nat.le_refl _) (.cells (flC f).toArray 25)
  have hA : At W1 w.heap.size 25 (flC f) := by rw [hW1]; exact At.news w 25 (flC f)
  rw [← hW1] at hB
  try rw [← hW1]
  have HB := Lib.hid hB
  clear hW1 hA hB
  go_wp2
  go_ret2
  exact ⟨rfl, HB.out⟩

theorem r13mc_3858 (f : FileM) (w : World) : Calls Try.prog 31 #[.agg (flC f).toArray, .int .i64 3858] w fun e w' => e = .returned (.tuple #[.int .u32 (U (knM f 3858)), .bool true]) ∧ Below w.heap.size w w' := by
  rw [knM_3858]
  go_enter Try.func31, Try.ntmps31
  go_upto_region 1 with (fail)
  obtain ⟨W1, hW1⟩ : ∃ W, W = w.alloc (.cells (flC f).toArray 25) := ⟨_, rfl⟩
  have hB := (Below.refl w.heap.size w).alloc (Nat.le_refl _) (.cells (flC f).toArray 25)
  have hA : At W1 w.heap.size 25 (flC f) := by rw [hW1]; exact At.news w 25 (flC f)
  rw [← hW1] at hB
  try rw [← hW1]
  have HB := Lib.hid hB
  clear hW1 hA hB
  go_wp2
  go_ret2
  exact ⟨rfl, HB.out⟩

theorem r13mc_3859 (f : FileM) (w : World) : Calls Try.prog 31 #[.agg (flC f).toArray, .int .i64 3859] w fun e w' => e = .returned (.tuple #[.int .u32 (U (knM f 3859)), .bool true]) ∧ Below w.heap.size w w' := by
  rw [knM_3859]
  go_enter Try.func31, Try.ntmps31
  go_upto_region 1 with (fail)
  obtain ⟨W1, hW1⟩ : ∃ W, W = w.alloc (.cells (flC f).toArray 25) := ⟨_, rfl⟩
  have hB := (Below.refl w.heap.size w).alloc (Nat.le_refl _) (.cells (flC f).toArray 25)
  have hA : At W1 w.heap.size 25 (flC f) := by rw [hW1]; exact At.news w 25 (flC f)
  rw [← hW1] at hB
  try rw [← hW1]
  have HB := Lib.hid hB
  clear hW1 hA hB
  go_wp2
  go_ret2
  exact ⟨rfl, HB.out⟩

theorem r13mc_3860 (f : FileM) (w : World) : Calls Try.prog 31 #[.agg (flC f).toArray, .int .i64 3860] w fun e w' => e = .returned (.tuple #[.int .u32 (U (knM f 3860)), .bool true]) ∧ Below w.heap.size w w' := by
  rw [knM_3860]
  go_enter Try.func31, Try.ntmps31
  go_upto_region 1 with (fail)
  obtain ⟨W1, hW1⟩ : ∃ W, W = w.alloc (.cells (flC f).toArray 25) := ⟨_, rfl⟩
  have hB := (Below.refl w.heap.size w).alloc (Nat.le_refl _) (.cells (flC f).toArray 25)
  have hA : At W1 w.heap.size 25 (flC f) := by rw [hW1]; exact At.news w 25 (flC f)
  rw [← hW1] at hB
  try rw [← hW1]
  have HB := Lib.hid hB
  clear hW1 hA hB
  go_wp2
  go_ret2
  exact ⟨rfl, HB.out⟩

theorem r13fl_size : (Try.prog.info? 25).map (·.size) = some 17 := by kernel_rfl
theorem r13kn_out (n : Int) (hA : ¬ (n = 256 ∨ n = 260 ∨ n = 261 ∨ n = 320 ∨ n = 321 ∨ n = 322 ∨ n = 323 ∨ n = 324 ∨ n = 384)) (hB : ¬ (n = 768 ∨ n = 769 ∨ n = 770 ∨ n = 771 ∨ n = 772 ∨ n = 773 ∨ n = 832 ∨ n = 833 ∨ n = 834 ∨ n = 835 ∨ n = 836 ∨ n = 2816 ∨ n = 2944 ∨ n = 3072 ∨ n = 3200 ∨ n = 3857 ∨ n = 3858 ∨ n = 3859 ∨ n = 3860)) (f : FileM) : knM f n = 0#32 ∧ knIs n = false := by
  simp only [not_or] at hA hB
  obtain ⟨a256, a260, a261, a320, a321, a322, a323, a324, a384⟩ := hA
  obtain ⟨b768, b769, b770, b771, b772, b773, b832, b833, b834, b835, b836, b2816, b2944, b3072, b3200, b3857, b3858, b3859, b3860⟩ := hB
  constructor
  · unfold knM
    simp only [a256, a260, a261, a320, a321, a322, a323, a324, a384, b768, b769, b770, b771, b772, b773, b832, b833, b834, b835, b836, b2816, b2944, b3072, b3200, if_false]
  · simp [knIs, numL, a256, a260, a261, a320, a321, a322, a323, a324, a384, b768, b769, b770, b771, b772, b773, b832, b833, b834, b835, b836, b2816, b2944, b3072, b3200, b3857, b3858, b3859, b3860]

theorem r13mc_any (f : FileM) (n : Int) (w : World) (hA : ¬ (n = 256 ∨ n = 260 ∨ n = 261 ∨ n = 320 ∨ n = 321 ∨ n = 322 ∨ n = 323 ∨ n = 324 ∨ n = 384)) : Calls Try.prog 31 #[.agg (flC f).toArray, .int .i64 n] w fun e w' => e = .returned (.tuple #[.int .u32 (U (knM f n)), .bool (knIs n)]) ∧ Below w.heap.size w w' := by
  by_cases hB : n = 768 ∨ n = 769 ∨ n = 770 ∨ n = 771 ∨ n = 772 ∨ n = 773 ∨ n = 832 ∨ n = 833 ∨ n = 834 ∨ n = 835 ∨ n = 836 ∨ n = 2816 ∨ n = 2944 ∨ n = 3072 ∨ n = 3200 ∨ n = 3857 ∨ n = 3858 ∨ n = 3859 ∨ n = 3860
  · rcases hB with rfl | rfl | rfl | rfl | rfl | rfl | rfl | rfl | rfl | rfl | rfl | rfl | rfl | rfl | rfl | rfl | rfl | rfl | rfl
    · exact r13mc_768 f w
    · exact r13mc_769 f w
    · exact r13mc_770 f w
    · exact r13mc_771 f w
    · exact r13mc_772 f w
    · exact r13mc_773 f w
    · exact r13mc_832 f w
    · exact r13mc_833 f w
    · exact r13mc_834 f w
    · exact r13mc_835 f w
    · exact r13mc_836 f w
    · exact r13mc_2816 f w
    · exact r13mc_2944 f w
    · exact r13mc_3072 f w
    · exact r13mc_3200 f w
    · exact r13mc_3857 f w
    · exact r13mc_3858 f w
    · exact r13mc_3859 f w
    · exact r13mc_3860 f w
  · have HO := Lib.hid (r13kn_out n hA hB f)
    simp only [not_or] at hB
    obtain ⟨b768, b769, b770, b771, b772, b773, b832, b833, b834, b835, b836, b2816, b2944, b3072, b3200, b3857, b3858, b3859, b3860⟩ := hB
    clear hA
    go_enter Try.func31, Try.ntmps31
    go_upto_region 1 with (fail)
    obtain ⟨W1, hW1⟩ : ∃ W, W = w.alloc (.cells (flC f).toArray 25) := ⟨_, rfl⟩
    have hB := (Below.refl w.heap.size w).alloc (Nat.le_refl _) (.cells (flC f).toArray 25)
    have hA : At W1 w.heap.size 25 (flC f) := by rw [hW1]; exact At.news w 25 (flC f)
    rw [← hW1] at hB
    try rw [← hW1]
    have HB := Lib.hid hB
    clear hW1 hA hB
    go_wp2
    go_ret2
    exact ⟨by rw [HO.out.1, HO.out.2]; rfl, HB.out⟩

theorem r13kn_any (f : FileM) (n : Int) (w : World) : Calls Try.prog 23 #[.agg (flC f).toArray, .int .i64 n] w fun e w' => e = .returned (.tuple #[.int .u32 (U (knM f n)), .bool (knIs n)]) ∧ Below w.heap.size w w' := by
  by_cases hA : n = 256 ∨ n = 260 ∨ n = 261 ∨ n = 320 ∨ n = 321 ∨ n = 322 ∨ n = 323 ∨ n = 324 ∨ n = 384
  · rcases hA with rfl | rfl | rfl | rfl | rfl | rfl | rfl | rfl | rfl
    · exact r13kn_256 f w
    · exact r13kn_260 f w
    · exact r13kn_261 f w
    · exact r13kn_320 f w
    · exact r13kn_321 f w
    · exact r13kn_322 f w
    · exact r13kn_323 f w
    · exact r13kn_324 f w
    · exact r13kn_384 f w
  · have HM := Lib.hid (fun W => r13mc_any f n W hA)
    simp only [not_or] at hA
    obtain ⟨a256, a260, a261, a320, a321, a322, a323, a324, a384⟩ := hA
    obtain ⟨r, hr⟩ : ∃ r, r = knM f n := ⟨_, rfl⟩
    obtain ⟨s, hs⟩ : ∃ s, s = knIs n := ⟨_, rfl⟩
    rw [← hr, ← hs] at HM
    rw [← hr, ← hs]
    clear hr hs
    go_enter Try.func23, Try.ntmps23
    go_upto_region 1 with (fail)
    obtain ⟨W1, hW1⟩ : ∃ W, W = w.alloc (.cells (flC f).toArray 25) := ⟨_, rfl⟩
    have hB := (Below.refl w.heap.size w).alloc (Nat.le_refl _) (.cells (flC f).toArray 25)
    have hA : At W1 w.heap.size 25 (flC f) := by rw [hW1]; exact At.news w 25 (flC f)
    rw [← hW1] at hB
    try rw [← hW1]
    have HB := Lib.hid hB
    have HA := Lib.hid hA
    clear hW1 hA hB
    go_wp2_with (first | (refine wpList_ldS (flC f) _ HA.out (by rfl) rfl rfl Try.underlying25 rfl r13fl_size rfl ?_) | (go_at_call 31; (with_reducible refine (HM.out _).mono ?_); rintro e w6 ⟨rfl, hb⟩; have BL := Lib.hid hb; clear hb))
    go_ret2
    exact ⟨rfl, HB.out.trans (BL.out.mono HB.out.size)⟩

theorem r13num_b {n : Int} (h : knIs n = true) : 0 ≤ n ∧ n < 4096 := by
  have c : n = 256 ∨ n = 260 ∨ n = 261 ∨ n = 320 ∨ n = 321 ∨ n = 322 ∨ n = 323 ∨ n = 324 ∨ n = 384 ∨ n = 768 ∨ n = 769 ∨ n = 770 ∨ n = 771 ∨ n = 772 ∨ n = 773 ∨ n = 832 ∨ n = 833 ∨ n = 834 ∨ n = 835 ∨ n = 836 ∨ n = 2816 ∨ n = 2944 ∨ n = 3072 ∨ n = 3200 ∨ n = 3857 ∨ n = 3858 ∨ n = 3859 ∨ n = 3860 := by simpa [knIs, numL] using h
  rcases c with rfl | rfl | rfl | rfl | rfl | rfl | rfl | rfl | rfl | rfl | rfl | rfl | rfl | rfl | rfl | rfl | rfl | rfl | rfl | rfl | rfl | rfl | rfl | rfl | rfl | rfl | rfl | rfl <;> decide

set_option maxHeartbeats 1000000 in
theorem r13read_any (f : FileM) (n p : Int) (w : World) : Calls Try.prog 12 #[.agg (flC f).toArray, .int .i64 n, .int .i64 p] w fun e w' => e = .returned (.tuple #[.int .u32 (U (rdM f n p)), .bool (rdIs n p)]) ∧ Below w.heap.size w w' := by
  have HK := Lib.hid (fun W => r13kn_any f n W)
  by_cases h : knIs n = true
  · have hb := r13num_b h
    have h1 : n.tdiv 256 = n / 256 := Int.tdiv_eq_ediv_of_nonneg hb.1
    have h2 : (n / 256).tmod 4 = n / 256 % 4 := Int.tmod_eq_emod_of_nonneg (by omega)
    have h3 : wrap64 (n / 256) = n / 256 := by unfold wrap64; omega
    rw [h] at HK
    obtain ⟨q, hq⟩ : ∃ q, q = n / 256 % 4 := ⟨_, rfl⟩
    rw [← hq] at h2
    obtain ⟨t, ht⟩ : ∃ t, t = n / 256 := ⟨_, rfl⟩
    rw [← ht] at h1 h2 h3
    by_cases c : q ≤ p
    · have HI : Hid (rdIs n p = true) := Lib.hid (by unfold rdIs; rw [h, ← hq]; simp [c])
      have HE : Hid (rdM f n p = knM f n) := Lib.hid (by unfold rdM; rw [HI.out]; rfl)
      have c2 : ¬ p < q := by omega
      clear h hb hq ht
      generalize knM f n = r at *
      go_enter Try.func12, Try.ntmps12
      go_upto_region 1 with (fail)
      obtain ⟨W1, hW1⟩ : ∃ W, W = w.alloc (.cells (flC f).toArray 25) := ⟨_, rfl⟩
      have hB := (Below.refl w.heap.size w).alloc (Nat.le_refl _) (.cells (flC f).toArray 25)
      have hA : At W1 w.heap.size 25 (flC f) := by rw [hW1]; exact At.news w 25 (flC f)
      rw [← hW1] at hB
      try rw [← hW1]
      have HB := Lib.hid hB
      have HA := Lib.hid hA
      clear hW1 hA hB
      go_wp2_with (first | (refine wpList_ldS (flC f) _ HA.out (by rfl) rfl rfl Try.underlying25 rfl r13fl_size rfl ?_) | (go_at_call 23; (with_reducible refine (HK.out _).mono ?_); rintro e w6 ⟨rfl, hb⟩; have BL := Lib.hid hb; clear hb))
      go_ret2
      exact ⟨by rw [HE.out, HI.out]; rfl, HB.out.trans (BL.out.mono HB.out.size)⟩
    · have HI : Hid (rdIs n p = false) := Lib.hid (by unfold rdIs; rw [h, ← hq]; simp; omega)
      have HE : Hid (rdM f n p = 0#32) := Lib.hid (by unfold rdM; rw [HI.out]; rfl)
      have c2 : p < q := by omega
      clear h hb hq ht
      generalize knM f n = r at *
      go_enter Try.func12, Try.ntmps12
      go_upto_region 1 with (fail)
      obtain ⟨W1, hW1⟩ : ∃ W, W = w.alloc (.cells (flC f).toArray 25) := ⟨_, rfl⟩
      have hB := (Below.refl w.heap.size w).alloc (Nat.le_refl _) (.cells (flC f).toArray 25)
      have hA : At W1 w.heap.size 25 (flC f) := by rw [hW1]; exact At.news w 25 (flC f)
      rw [← hW1] at hB
      try rw [← hW1]
      have HB := Lib.hid hB
      have HA := Lib.hid hA
      clear hW1 hA hB
      go_wp2_with (first | (refine wpList_ldS (flC f) _ HA.out (by rfl) rfl rfl Try.underlying25 rfl r13fl_size rfl ?_) | (go_at_call 23; (with_reducible refine (HK.out _).mono ?_); rintro e w6 ⟨rfl, hb⟩; have BL := Lib.hid hb; clear hb))
      go_ret2
      exact ⟨by rw [HE.out, HI.out]; rfl, HB.out.trans (BL.out.mono HB.out.size)⟩
  · have hn : knIs n = false := by simpa using h
    rw [hn] at HK
    have HI : Hid (rdIs n p = false) := Lib.hid (by unfold rdIs; rw [hn]; rfl)
    have HE : Hid (rdM f n p = 0#32) := Lib.hid (by unfold rdM; rw [HI.out]; rfl)
    clear h hn
    generalize knM f n = r at *
    go_enter Try.func12, Try.ntmps12
    go_upto_region 1 with (fail)
    obtain ⟨W1, hW1⟩ : ∃ W, W = w.alloc (.cells (flC f).toArray 25) := ⟨_, rfl⟩
    have hB := (Below.refl w.heap.size w).alloc (Nat.le_refl _) (.cells (flC f).toArray 25)
    have hA : At W1 w.heap.size 25 (flC f) := by rw [hW1]; exact At.news w 25 (flC f)
    rw [← hW1] at hB
    try rw [← hW1]
    have HB := Lib.hid hB
    have HA := Lib.hid hA
    clear hW1 hA hB
    go_wp2_with (first | (refine wpList_ldS (flC f) _ HA.out (by rfl) rfl rfl Try.underlying25 rfl r13fl_size rfl ?_) | (go_at_call 23; (with_reducible refine (HK.out _).mono ?_); rintro e w6 ⟨rfl, hb⟩; have BL := Lib.hid hb; clear hb))
    go_ret2
    exact ⟨by rw [HE.out, HI.out]; rfl, HB.out.trans (BL.out.mono HB.out.size)⟩

theorem r13mask_any (o v m : BitVec 32) (w : World) : Calls Try.prog 29 #[.int .u32 (U o), .int .u32 (U v), .int .u32 (U m)] w fun e w' => e = .returned (.int .u32 (U (maskB o v m))) ∧ w' = w := by
  have h1 := mask_not m
  have h2 := mask_sum o v m
  go_enter Try.func29, Try.ntmps29
  go_wp2
  go_ret
  exact ⟨by first | rfl | (rw [← h2]; rfl), rfl⟩
theorem r13status_any (o v : BitVec 32) (w : World) : Calls Try.prog 28 #[.int .u32 (U o), .int .u32 (U v)] w fun e w' => e = .returned (.int .u32 (U (maskB o (stV v) 924074#32))) ∧ w' = w := by
  have u0 := U_nonneg v
  have h1 : (U v).tdiv 2048 = U v / 2048 := Int.tdiv_eq_ediv_of_nonneg u0
  have h2 : (U v / 2048).tmod 4 = U v / 2048 % 4 := Int.tmod_eq_emod_of_nonneg (by omega)
  have h3 : U v / 2048 % 4294967296 = U v / 2048 := by have := U_lt v; omega
  have h4 : (U v - 4096) % 4294967296 = U (v - 4096#32) := U_sub v 4096#32
  by_cases c : U v / 2048 % 4 = 2
  · have HM : Hid (Calls Try.prog 29 #[.int .u32 (U o), .int .u32 (U (v - 4096#32)), .int .u32 924074] w fun e w' => e = .returned (.int .u32 (U (maskB o (stV v) 924074#32))) ∧ w' = w) := Lib.hid (by
      have := r13mask_any o (v - 4096#32) 924074#32 w
      unfold stV
      rw [if_pos c]
      exact this)
    have c2 : (U v / 2048 % 4 == 2) = true := by simpa using c
    clear c u0
    go_enter Try.func28, Try.ntmps28
    go_wp2_with (go_at_call 29; (with_reducible refine (HM.out).mono ?_); rintro e w5 ⟨rfl, hq⟩; replace hq := hq.symm; subst hq)
    go_ret
    exact ⟨rfl, rfl⟩
  · have HM : Hid (Calls Try.prog 29 #[.int .u32 (U o), .int .u32 (U v), .int .u32 924074] w fun e w' => e = .returned (.int .u32 (U (maskB o (stV v) 924074#32))) ∧ w' = w) := Lib.hid (by
      have := r13mask_any o v 924074#32 w
      unfold stV
      rw [if_neg c]
      exact this)
    have c2 : (U v / 2048 % 4 == 2) = false := by simpa using c
    clear c u0
    go_enter Try.func28, Try.ntmps28
    go_wp2_with (go_at_call 29; (with_reducible refine (HM.out).mono ?_); rintro e w5 ⟨rfl, hq⟩; replace hq := hq.symm; subst hq)
    go_ret
    exact ⟨rfl, rfl⟩

end Go.Proofs.Ytedpeojgpnnddaa
