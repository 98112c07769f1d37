/- The document's writes to the lower registers (layer csr). -/
import Derived.Test.YtedpeojgpnnddaaCsrR
namespace Go.Proofs.Ytedpeojgpnnddaa
open Go.RowKit Bm
namespace Bm
theorem mask_clear (v : BitVec 32) : maskB v 0#32 2#32 = v &&& 4294967293#32 := by
  unfold maskB
  rw [show (0#32 &&& 2#32) = 0#32 from rfl, BitVec.or_zero]
  rfl
theorem less_four (v : BitVec 32) : (U v - U v % 4) % 4294967296 = U (v &&& 4294967292#32) := by
  have e : U v % 4 = U (v &&& 3#32) := by
    unfold U; rw [BitVec.toNat_and, show (3#32).toNat = 2 ^ 2 - 1 from rfl, Nat.and_two_pow_sub_one_eq_mod]; rfl
  have s : (v &&& 4294967292#32) + (v &&& 3#32) = v := by
    rw [show (4294967292#32) = ~~~3#32 from rfl, BitVec.add_eq_or_of_and_eq_zero]
    · apply gb_ext; intro j j0 j1
      rw [gb_or, gb_and, gb_and, gb_not]
      have d : decide (0 ≤ j ∧ j < 32) = true := by simp; omega
      rw [d]
      cases gb 3#32 j <;> simp
    · apply gb_ext; intro j j0 j1
      rw [gb_and, gb_and, gb_and, gb_not, gb_zero]
      cases gb 3#32 j <;> simp
  have t : v - (v &&& 3#32) = v &&& 4294967292#32 := by
    have h2 : (v &&& 4294967292#32) + (v &&& 3#32) - (v &&& 3#32) = v - (v &&& 3#32) := congrArg (· - (v &&& 3#32)) s
    rw [← h2, BitVec.add_sub_cancel]
  rw [e, U_sub, t]
def suA : List Int := [256, 260, 261, 320, 321, 322, 323, 324, 384]
def suM (f : FileM) (n : Int) (v : BitVec 32) : FileM := if suA.contains n then wrF f n v else f
end Bm

set_option maxHeartbeats 1000000 in
theorem r13su_256 (f : FileM) (v : BitVec 32) (w : World) : Calls Try.prog 30 #[.agg (flC f).toArray, .int .i64 256, .int .u32 (U v)] w fun e w' => e = .returned (.agg (flC (wrF f 256 v)).toArray) ∧ Below w.heap.size w w' := by
  rw [wrF_256]
  have HM : Hid (∀ W, Calls Try.prog 29 #[.int .u32 (U f.st), .int .u32 (U v), .int .u32 (786722)] W fun e w' => e = .returned (.int .u32 (U (maskB f.st v 786722#32))) ∧ w' = W) := Lib.hid (fun W => r13mask_any f.st v 786722#32 W)
  go_enter Try.func30, Try.ntmps30
  go_upto_region 1 with (fail)
  obtain ⟨W1, hW1⟩ : ∃ W, W = (w.alloc (.cells (flC f).toArray 25)).alloc (.cells (flC fl0).toArray 25) := ⟨_, rfl⟩
  have hB := below_two w (.cells (flC f).toArray 25) (.cells (flC fl0).toArray 25)
  have hA : At W1 w.heap.size 25 (flC f) := by rw [hW1]; exact (At.news w 25 (flC f)).alloc _
  have hZ : At W1 (w.heap.size + 1) 25 (flC fl0) := by rw [hW1]; exact At.alloc_new _ 25 (flC fl0) (by simp) rfl
  rw [← hW1] at hB
  first | rw [← hW1] | (change Code.wp _ _ _ _ ((w.alloc (.cells (flC f).toArray 25)).alloc (.cells (flC fl0).toArray 25)); rw [← hW1])
  have HB := Lib.hid hB
  have HA := Lib.hid hA
  have HZ := Lib.hid hZ
  clear hW1 hB hA hZ
  have c_st : W1.cell? ⟨w.heap.size, 0, none⟩ = some (.int .u32 (U f.st)) := HA.out.cell 0
  have f_0 : W1.frozen? ⟨w.heap.size, 0, none⟩ = false := HA.out.frozen 0
  go_upto_region 20 with (first | (go_at_call 29; (with_reducible refine (HM.out _).mono ?_); rintro e w5 ⟨rfl, hq⟩; replace hq := hq.symm; subst hq))
  obtain ⟨W2, hW2⟩ : ∃ W, W = W1.setCell ⟨w.heap.size, 0, none⟩ (.int .u32 (U (maskB f.st v 786722#32))) := ⟨_, rfl⟩
  have hA2 : At W2 w.heap.size 25 (flC { f with st := maskB f.st v 786722#32 }) := by rw [hW2]; exact (HA.out.put 0 (.int .u32 (U (maskB f.st v 786722#32)))).as rfl
  have hZ2 : At W2 (w.heap.size + 1) 25 (flC fl0) := by rw [hW2]; exact HZ.out.far (by simp) _
  have hB2 : Below w.heap.size w W2 := by rw [hW2]; exact HB.out.setCell (Nat.le_refl _) _
  first | rw [← hW2] | (change Code.wp _ _ _ _ (W1.setCell ⟨w.heap.size, 0, none⟩ (.int .u32 (U (maskB f.st v 786722#32)))); rw [← hW2])
  have HA2 := Lib.hid hA2
  have HZ2 := Lib.hid hZ2
  have HB2 := Lib.hid hB2
  clear hW2 hA2 hZ2 hB2
  go_wp2_with (first | (refine wpList_ldS (flC { f with st := maskB f.st v 786722#32 }) _ HA2.out (by rfl) rfl rfl Try.underlying25 rfl r13fl_size rfl ?_) | (refine wpList_stS (z := flC fl0) (flC { f with st := maskB f.st v 786722#32 }) _ _ HZ2.out rfl rfl rfl rfl r13fl_size rfl rfl (fl_one _) ?_; intro w3 hA3 hT3; have HR3 := Lib.hid hA3; have TR3 := Lib.hid hT3; clear hA3 hT3))
  exact bodyPost_ret (res_S1 Try.results30 Try.underlying25 r13fl_size rfl _ rfl HR3.out) rfl ⟨rfl, HB2.out.trans (TR3.out.below (B := w.heap.size) (fun k hk => by unfold Just at hk; omega) HB2.out.size)⟩

set_option maxHeartbeats 1000000 in
theorem r13su_260 (f : FileM) (v : BitVec 32) (w : World) : Calls Try.prog 30 #[.agg (flC f).toArray, .int .i64 260, .int .u32 (U v)] w fun e w' => e = .returned (.agg (flC (wrF f 260 v)).toArray) ∧ Below w.heap.size w w' := by
  rw [wrF_260]
  have HM : Hid (∀ W, Calls Try.prog 29 #[.int .u32 (U f.mie), .int .u32 (U v), .int .u32 (U f.ml)] W fun e w' => e = .returned (.int .u32 (U (maskB f.mie v f.ml))) ∧ w' = W) := Lib.hid (fun W => r13mask_any f.mie v f.ml W)
  go_enter Try.func30, Try.ntmps30
  go_upto_region 1 with (fail)
  obtain ⟨W1, hW1⟩ : ∃ W, W = (w.alloc (.cells (flC f).toArray 25)).alloc (.cells (flC fl0).toArray 25) := ⟨_, rfl⟩
  have hB := below_two w (.cells (flC f).toArray 25) (.cells (flC fl0).toArray 25)
  have hA : At W1 w.heap.size 25 (flC f) := by rw [hW1]; exact (At.news w 25 (flC f)).alloc _
  have hZ : At W1 (w.heap.size + 1) 25 (flC fl0) := by rw [hW1]; exact At.alloc_new _ 25 (flC fl0) (by simp) rfl
  rw [← hW1] at hB
  first | rw [← hW1] | (change Code.wp _ _ _ _ ((w.alloc (.cells (flC f).toArray 25)).alloc (.cells (flC fl0).toArray 25)); rw [← hW1])
  have HB := Lib.hid hB
  have HA := Lib.hid hA
  have HZ := Lib.hid hZ
  clear hW1 hB hA hZ
  have c_mie : W1.cell? ⟨w.heap.size, 3, none⟩ = some (.int .u32 (U f.mie)) := HA.out.cell 3
  have c_ml : W1.cell? ⟨w.heap.size, 2, none⟩ = some (.int .u32 (U f.ml)) := HA.out.cell 2
  have f_3 : W1.frozen? ⟨w.heap.size, 3, none⟩ = false := HA.out.frozen 3
  go_upto_region 20 with (first | (go_at_call 29; (with_reducible refine (HM.out _).mono ?_); rintro e w5 ⟨rfl, hq⟩; replace hq := hq.symm; subst hq))
  obtain ⟨W2, hW2⟩ : ∃ W, W = W1.setCell ⟨w.heap.size, 3, none⟩ (.int .u32 (U (maskB f.mie v f.ml))) := ⟨_, rfl⟩
  have hA2 : At W2 w.heap.size 25 (flC { f with mie := maskB f.mie v f.ml }) := by rw [hW2]; exact (HA.out.put 3 (.int .u32 (U (maskB f.mie v f.ml)))).as rfl
  have hZ2 : At W2 (w.heap.size + 1) 25 (flC fl0) := by rw [hW2]; exact HZ.out.far (by simp) _
  have hB2 : Below w.heap.size w W2 := by rw [hW2]; exact HB.out.setCell (Nat.le_refl _) _
  first | rw [← hW2] | (change Code.wp _ _ _ _ (W1.setCell ⟨w.heap.size, 3, none⟩ (.int .u32 (U (maskB f.mie v f.ml)))); rw [← hW2])
  have HA2 := Lib.hid hA2
  have HZ2 := Lib.hid hZ2
  have HB2 := Lib.hid hB2
  clear hW2 hA2 hZ2 hB2
  go_wp2_with (first | (refine wpList_ldS (flC { f with mie := maskB f.mie v f.ml }) _ HA2.out (by rfl) rfl rfl Try.underlying25 rfl r13fl_size rfl ?_) | (refine wpList_stS (z := flC fl0) (flC { f with mie := maskB f.mie v f.ml }) _ _ HZ2.out rfl rfl rfl rfl r13fl_size rfl rfl (fl_one _) ?_; intro w3 hA3 hT3; have HR3 := Lib.hid hA3; have TR3 := Lib.hid hT3; clear hA3 hT3))
  exact bodyPost_ret (res_S1 Try.results30 Try.underlying25 r13fl_size rfl _ rfl HR3.out) rfl ⟨rfl, HB2.out.trans (TR3.out.below (B := w.heap.size) (fun k hk => by unfold Just at hk; omega) HB2.out.size)⟩

set_option maxHeartbeats 1000000 in
theorem r13su_261 (f : FileM) (v : BitVec 32) (w : World) : Calls Try.prog 30 #[.agg (flC f).toArray, .int .i64 261, .int .u32 (U v)] w fun e w' => e = .returned (.agg (flC (wrF f 261 v)).toArray) ∧ Below w.heap.size w w' := by
  rw [wrF_261]
  have HM : Hid (∀ W, Calls Try.prog 29 #[.int .u32 (U v), .int .u32 0, .int .u32 2] W fun e w' => e = .returned (.int .u32 (U (v &&& 4294967293#32))) ∧ w' = W) := Lib.hid (fun W => by have := r13mask_any v 0#32 2#32 W; rw [mask_clear] at this; exact this)
  go_enter Try.func30, Try.ntmps30
  go_upto_region 1 with (fail)
  obtain ⟨W1, hW1⟩ : ∃ W, W = (w.alloc (.cells (flC f).toArray 25)).alloc (.cells (flC fl0).toArray 25) := ⟨_, rfl⟩
  have hB := below_two w (.cells (flC f).toArray 25) (.cells (flC fl0).toArray 25)
  have hA : At W1 w.heap.size 25 (flC f) := by rw [hW1]; exact (At.news w 25 (flC f)).alloc _
  have hZ : At W1 (w.heap.size + 1) 25 (flC fl0) := by rw [hW1]; exact At.alloc_new _ 25 (flC fl0) (by simp) rfl
  rw [← hW1] at hB
  first | rw [← hW1] | (change Code.wp _ _ _ _ ((w.alloc (.cells (flC f).toArray 25)).alloc (.cells (flC fl0).toArray 25)); rw [← hW1])
  have HB := Lib.hid hB
  have HA := Lib.hid hA
  have HZ := Lib.hid hZ
  clear hW1 hB hA hZ
  have c_stvec : W1.cell? ⟨w.heap.size, 10, none⟩ = some (.int .u32 (U f.stvec)) := HA.out.cell 10
  have f_10 : W1.frozen? ⟨w.heap.size, 10, none⟩ = false := HA.out.frozen 10
  go_upto_region 20 with (first | (go_at_call 29; (with_reducible refine (HM.out _).mono ?_); rintro e w5 ⟨rfl, hq⟩; replace hq := hq.symm; subst hq))
  obtain ⟨W2, hW2⟩ : ∃ W, W = W1.setCell ⟨w.heap.size, 10, none⟩ (.int .u32 (U (v &&& 4294967293#32))) := ⟨_, rfl⟩
  have hA2 : At W2 w.heap.size 25 (flC { f with stvec := v &&& 4294967293#32 }) := by rw [hW2]; exact (HA.out.put 10 (.int .u32 (U (v &&& 4294967293#32)))).as rfl
  have hZ2 : At W2 (w.heap.size + 1) 25 (flC fl0) := by rw [hW2]; exact HZ.out.far (by simp) _
  have hB2 : Below w.heap.size w W2 := by rw [hW2]; exact HB.out.setCell (Nat.le_refl _) _
  first | rw [← hW2] | (change Code.wp _ _ _ _ (W1.setCell ⟨w.heap.size, 10, none⟩ (.int .u32 (U (v &&& 4294967293#32)))); rw [← hW2])
  have HA2 := Lib.hid hA2
  have HZ2 := Lib.hid hZ2
  have HB2 := Lib.hid hB2
  clear hW2 hA2 hZ2 hB2
  go_wp2_with (first | (refine wpList_ldS (flC { f with stvec := v &&& 4294967293#32 }) _ HA2.out (by rfl) rfl rfl Try.underlying25 rfl r13fl_size rfl ?_) | (refine wpList_stS (z := flC fl0) (flC { f with stvec := v &&& 4294967293#32 }) _ _ HZ2.out rfl rfl rfl rfl r13fl_size rfl rfl (fl_one _) ?_; intro w3 hA3 hT3; have HR3 := Lib.hid hA3; have TR3 := Lib.hid hT3; clear hA3 hT3))
  exact bodyPost_ret (res_S1 Try.results30 Try.underlying25 r13fl_size rfl _ rfl HR3.out) rfl ⟨rfl, HB2.out.trans (TR3.out.below (B := w.heap.size) (fun k hk => by unfold Just at hk; omega) HB2.out.size)⟩

set_option maxHeartbeats 1000000 in
theorem r13su_320 (f : FileM) (v : BitVec 32) (w : World) : Calls Try.prog 30 #[.agg (flC f).toArray, .int .i64 320, .int .u32 (U v)] w fun e w' => e = .returned (.agg (flC (wrF f 320 v)).toArray) ∧ Below w.heap.size w w' := by
  rw [wrF_320]
  go_enter Try.func30, Try.ntmps30
  go_upto_region 1 with (fail)
  obtain ⟨W1, hW1⟩ : ∃ W, W = (w.alloc (.cells (flC f).toArray 25)).alloc (.cells (flC fl0).toArray 25) := ⟨_, rfl⟩
  have hB := below_two w (.cells (flC f).toArray 25) (.cells (flC fl0).toArray 25)
  have hA : At W1 w.heap.size 25 (flC f) := by rw [hW1]; exact (At.news w 25 (flC f)).alloc _
  have hZ : At W1 (w.heap.size + 1) 25 (flC fl0) := by rw [hW1]; exact At.alloc_new _ 25 (flC fl0) (by simp) rfl
  rw [← hW1] at hB
  first | rw [← hW1] | (change Code.wp _ _ _ _ ((w.alloc (.cells (flC f).toArray 25)).alloc (.cells (flC fl0).toArray 25)); rw [← hW1])
  have HB := Lib.hid hB
  have HA := Lib.hid hA
  have HZ := Lib.hid hZ
  clear hW1 hB hA hZ
  have c_sscr : W1.cell? ⟨w.heap.size, 11, none⟩ = some (.int .u32 (U f.sscr)) := HA.out.cell 11
  have f_11 : W1.frozen? ⟨w.heap.size, 11, none⟩ = false := HA.out.frozen 11
  go_upto_region 20 with (fail)
  obtain ⟨W2, hW2⟩ : ∃ W, W = W1.setCell ⟨w.heap.size, 11, none⟩ (.int .u32 (U (v))) := ⟨_, rfl⟩
  have hA2 : At W2 w.heap.size 25 (flC { f with sscr := v }) := by rw [hW2]; exact (HA.out.put 11 (.int .u32 (U (v)))).as rfl
  have hZ2 : At W2 (w.heap.size + 1) 25 (flC fl0) := by rw [hW2]; exact HZ.out.far (by simp) _
  have hB2 : Below w.heap.size w W2 := by rw [hW2]; exact HB.out.setCell (Nat.le_refl _) _
  first | rw [← hW2] | (change Code.wp _ _ _ _ (W1.setCell ⟨w.heap.size, 11, none⟩ (.int .u32 (U (v)))); rw [← hW2])
  have HA2 := Lib.hid hA2
  have HZ2 := Lib.hid hZ2
  have HB2 := Lib.hid hB2
  clear hW2 hA2 hZ2 hB2
  go_wp2_with (first | (refine wpList_ldS (flC { f with sscr := v }) _ HA2.out (by rfl) rfl rfl Try.underlying25 rfl r13fl_size rfl ?_) | (refine wpList_stS (z := flC fl0) (flC { f with sscr := v }) _ _ HZ2.out rfl rfl rfl rfl r13fl_size rfl rfl (fl_one _) ?_; intro w3 hA3 hT3; have HR3 := Lib.hid hA3; have TR3 := Lib.hid hT3; clear hA3 hT3))
  exact bodyPost_ret (res_S1 Try.results30 Try.underlying25 r13fl_size rfl _ rfl HR3.out) rfl ⟨rfl, HB2.out.trans (TR3.out.below (B := w.heap.size) (fun k hk => by unfold Just at hk; omega) HB2.out.size)⟩

set_option maxHeartbeats 1000000 in
theorem r13su_321 (f : FileM) (v : BitVec 32) (w : World) : Calls Try.prog 30 #[.agg (flC f).toArray, .int .i64 321, .int .u32 (U v)] w fun e w' => e = .returned (.agg (flC (wrF f 321 v)).toArray) ∧ Below w.heap.size w w' := by
  rw [wrF_321]
  have g1 : (U v).tmod 4 = U v % 4 := Int.tmod_eq_emod_of_nonneg (U_nonneg v)
  have g2 : (U v - U v % 4) % 4294967296 = U (v &&& 4294967292#32) := less_four v
  go_enter Try.func30, Try.ntmps30
  go_upto_region 1 with (fail)
  obtain ⟨W1, hW1⟩ : ∃ W, W = (w.alloc (.cells (flC f).toArray 25)).alloc (.cells (flC fl0).toArray 25) := ⟨_, rfl⟩
  have hB := below_two w (.cells (flC f).toArray 25) (.cells (flC fl0).toArray 25)
  have hA : At W1 w.heap.size 25 (flC f) := by rw [hW1]; exact (At.news w 25 (flC f)).alloc _
  have hZ : At W1 (w.heap.size + 1) 25 (flC fl0) := by rw [hW1]; exact At.alloc_new _ 25 (flC fl0) (by simp) rfl
  rw [← hW1] at hB
  first | rw [← hW1] | (change Code.wp _ _ _ _ ((w.alloc (.cells (flC f).toArray 25)).alloc (.cells (flC fl0).toArray 25)); rw [← hW1])
  have HB := Lib.hid hB
  have HA := Lib.hid hA
  have HZ := Lib.hid hZ
  clear hW1 hB hA hZ
  have c_sepc : W1.cell? ⟨w.heap.size, 12, none⟩ = some (.int .u32 (U f.sepc)) := HA.out.cell 12
  have f_12 : W1.frozen? ⟨w.heap.size, 12, none⟩ = false := HA.out.frozen 12
  go_upto_region 20 with (fail)
  obtain ⟨W2, hW2⟩ : ∃ W, W = W1.setCell ⟨w.heap.size, 12, none⟩ (.int .u32 (U (v &&& 4294967292#32))) := ⟨_, rfl⟩
  have hA2 : At W2 w.heap.size 25 (flC { f with sepc := v &&& 4294967292#32 }) := by rw [hW2]; exact (HA.out.put 12 (.int .u32 (U (v &&& 4294967292#32)))).as rfl
  have hZ2 : At W2 (w.heap.size + 1) 25 (flC fl0) := by rw [hW2]; exact HZ.out.far (by simp) _
  have hB2 : Below w.heap.size w W2 := by rw [hW2]; exact HB.out.setCell (Nat.le_refl _) _
  first | rw [← hW2] | (change Code.wp _ _ _ _ (W1.setCell ⟨w.heap.size, 12, none⟩ (.int .u32 (U (v &&& 4294967292#32)))); rw [← hW2])
  have HA2 := Lib.hid hA2
  have HZ2 := Lib.hid hZ2
  have HB2 := Lib.hid hB2
  clear hW2 hA2 hZ2 hB2
  go_wp2_with (first | (refine wpList_ldS (flC { f with sepc := v &&& 4294967292#32 }) _ HA2.out (by rfl) rfl rfl Try.underlying25 rfl r13fl_size rfl ?_) | (refine wpList_stS (z := flC fl0) (flC { f with sepc := v &&& 4294967292#32 }) _ _ HZ2.out rfl rfl rfl rfl r13fl_size rfl rfl (fl_one _) ?_; intro w3 hA3 hT3; have HR3 := Lib.hid hA3; have TR3 := Lib.hid hT3; clear hA3 hT3))
  exact bodyPost_ret (res_S1 Try.results30 Try.underlying25 r13fl_size rfl _ rfl HR3.out) rfl ⟨rfl, HB2.out.trans (TR3.out.below (B := w.heap.size) (fun k hk => by unfold Just at hk; omega) HB2.out.size)⟩

set_option maxHeartbeats 1000000 in
theorem r13su_322 (f : FileM) (v : BitVec 32) (w : World) : Calls Try.prog 30 #[.agg (flC f).toArray, .int .i64 322, .int .u32 (U v)] w fun e w' => e = .returned (.agg (flC (wrF f 322 v)).toArray) ∧ Below w.heap.size w w' := by
  rw [wrF_322]
  go_enter Try.func30, Try.ntmps30
  go_upto_region 1 with (fail)
  obtain ⟨W1, hW1⟩ : ∃ W, W = (w.alloc (.cells (flC f).toArray 25)).alloc (.cells (flC fl0).toArray 25) := ⟨_, rfl⟩
  have hB := below_two w (.cells (flC f).toArray 25) (.cells (flC fl0).toArray 25)
  have hA : At W1 w.heap.size 25 (flC f) := by rw [hW1]; exact (At.news w 25 (flC f)).alloc _
  have hZ : At W1 (w.heap.size + 1) 25 (flC fl0) := by rw [hW1]; exact At.alloc_new _ 25 (flC fl0) (by simp) rfl
  rw [← hW1] at hB
  first | rw [← hW1] | (change Code.wp _ _ _ _ ((w.alloc (.cells (flC f).toArray 25)).alloc (.cells (flC fl0).toArray 25)); rw [← hW1])
  have HB := Lib.hid hB
  have HA := Lib.hid hA
  have HZ := Lib.hid hZ
  clear hW1 hB hA hZ
  have c_scause : W1.cell? ⟨w.heap.size, 13, none⟩ = some (.int .u32 (U f.scause)) := HA.out.cell 13
  have f_13 : W1.frozen? ⟨w.heap.size, 13, none⟩ = false := HA.out.frozen 13
  go_upto_region 20 with (fail)
  obtain ⟨W2, hW2⟩ : ∃ W, W = W1.setCell ⟨w.heap.size, 13, none⟩ (.int .u32 (U (v))) := ⟨_, rfl⟩
  have hA2 : At W2 w.heap.size 25 (flC { f with scause := v }) := by rw [hW2]; exact (HA.out.put 13 (.int .u32 (U (v)))).as rfl
  have hZ2 : At W2 (w.heap.size + 1) 25 (flC fl0) := by rw [hW2]; exact HZ.out.far (by simp) _
  have hB2 : Below w.heap.size w W2 := by rw [hW2]; exact HB.out.setCell (Nat.le_refl _) _
  first | rw [← hW2] | (change Code.wp _ _ _ _ (W1.setCell ⟨w.heap.size, 13, none⟩ (.int .u32 (U (v)))); rw [← hW2])
  have HA2 := Lib.hid hA2
  have HZ2 := Lib.hid hZ2
  have HB2 := Lib.hid hB2
  clear hW2 hA2 hZ2 hB2
  go_wp2_with (first | (refine wpList_ldS (flC { f with scause := v }) _ HA2.out (by rfl) rfl rfl Try.underlying25 rfl r13fl_size rfl ?_) | (refine wpList_stS (z := flC fl0) (flC { f with scause := v }) _ _ HZ2.out rfl rfl rfl rfl r13fl_size rfl rfl (fl_one _) ?_; intro w3 hA3 hT3; have HR3 := Lib.hid hA3; have TR3 := Lib.hid hT3; clear hA3 hT3))
  exact bodyPost_ret (res_S1 Try.results30 Try.underlying25 r13fl_size rfl _ rfl HR3.out) rfl ⟨rfl, HB2.out.trans (TR3.out.below (B := w.heap.size) (fun k hk => by unfold Just at hk; omega) HB2.out.size)⟩

set_option maxHeartbeats 1000000 in
theorem r13su_323 (f : FileM) (v : BitVec 32) (w : World) : Calls Try.prog 30 #[.agg (flC f).toArray, .int .i64 323, .int .u32 (U v)] w fun e w' => e = .returned (.agg (flC (wrF f 323 v)).toArray) ∧ Below w.heap.size w w' := by
  rw [wrF_323]
  go_enter Try.func30, Try.ntmps30
  go_upto_region 1 with (fail)
  obtain ⟨W1, hW1⟩ : ∃ W, W = (w.alloc (.cells (flC f).toArray 25)).alloc (.cells (flC fl0).toArray 25) := ⟨_, rfl⟩
  have hB := below_two w (.cells (flC f).toArray 25) (.cells (flC fl0).toArray 25)
  have hA : At W1 w.heap.size 25 (flC f) := by rw [hW1]; exact (At.news w 25 (flC f)).alloc _
  have hZ : At W1 (w.heap.size + 1) 25 (flC fl0) := by rw [hW1]; exact At.alloc_new _ 25 (flC fl0) (by simp) rfl
  rw [← hW1] at hB
  first | rw [← hW1] | (change Code.wp _ _ _ _ ((w.alloc (.cells (flC f).toArray 25)).alloc (.cells (flC fl0).toArray 25)); rw [← hW1])
  have HB := Lib.hid hB
  have HA := Lib.hid hA
  have HZ := Lib.hid hZ
  clear hW1 hB hA hZ
  have c_stval : W1.cell? ⟨w.heap.size, 14, none⟩ = some (.int .u32 (U f.stval)) := HA.out.cell 14
  have f_14 : W1.frozen? ⟨w.heap.size, 14, none⟩ = false := HA.out.frozen 14
  go_upto_region 20 with (fail)
  obtain ⟨W2, hW2⟩ : ∃ W, W = W1.setCell ⟨w.heap.size, 14, none⟩ (.int .u32 (U (v))) := ⟨_, rfl⟩
  have hA2 : At W2 w.heap.size 25 (flC { f with stval := v }) := by rw [hW2]; exact (HA.out.put 14 (.int .u32 (U (v)))).as rfl
  have hZ2 : At W2 (w.heap.size + 1) 25 (flC fl0) := by rw [hW2]; exact HZ.out.far (by simp) _
  have hB2 : Below w.heap.size w W2 := by rw [hW2]; exact HB.out.setCell (Nat.le_refl _) _
  first | rw [← hW2] | (change Code.wp _ _ _ _ (W1.setCell ⟨w.heap.size, 14, none⟩ (.int .u32 (U (v)))); rw [← hW2])
  have HA2 := Lib.hid hA2
  have HZ2 := Lib.hid hZ2
  have HB2 := Lib.hid hB2
  clear hW2 hA2 hZ2 hB2
  go_wp2_with (first | (refine wpList_ldS (flC { f with stval := v }) _ HA2.out (by rfl) rfl rfl Try.underlying25 rfl r13fl_size rfl ?_) | (refine wpList_stS (z := flC fl0) (flC { f with stval := v }) _ _ HZ2.out rfl rfl rfl rfl r13fl_size rfl rfl (fl_one _) ?_; intro w3 hA3 hT3; have HR3 := Lib.hid hA3; have TR3 := Lib.hid hT3; clear hA3 hT3))
  exact bodyPost_ret (res_S1 Try.results30 Try.underlying25 r13fl_size rfl _ rfl HR3.out) rfl ⟨rfl, HB2.out.trans (TR3.out.below (B := w.heap.size) (fun k hk => by unfold Just at hk; omega) HB2.out.size)⟩

set_option maxHeartbeats 1000000 in
theorem r13su_324 (f : FileM) (v : BitVec 32) (w : World) : Calls Try.prog 30 #[.agg (flC f).toArray, .int .i64 324, .int .u32 (U v)] w fun e w' => e = .returned (.agg (flC (wrF f 324 v)).toArray) ∧ Below w.heap.size w w' := by
  rw [wrF_324]
  have g1 : bits .and .u32 (U f.ml) 2 = U (f.ml &&& 2#32) := U_and f.ml 2#32
  have HM : Hid (∀ W, Calls Try.prog 29 #[.int .u32 (U f.mip), .int .u32 (U v), .int .u32 (U (f.ml &&& 2#32))] W fun e w' => e = .returned (.int .u32 (U (maskB f.mip v (f.ml &&& 2#32)))) ∧ w' = W) := Lib.hid (fun W => r13mask_any f.mip v (f.ml &&& 2#32) W)
  go_enter Try.func30, Try.ntmps30
  go_upto_region 1 with (fail)
  obtain ⟨W1, hW1⟩ : ∃ W, W = (w.alloc (.cells (flC f).toArray 25)).alloc (.cells (flC fl0).toArray 25) := ⟨_, rfl⟩
  have hB := below_two w (.cells (flC f).toArray 25) (.cells (flC fl0).toArray 25)
  have hA : At W1 w.heap.size 25 (flC f) := by rw [hW1]; exact (At.news w 25 (flC f)).alloc _
  have hZ : At W1 (w.heap.size + 1) 25 (flC fl0) := by rw [hW1]; exact At.alloc_new _ 25 (flC fl0) (by simp) rfl
  rw [← hW1] at hB
  first | rw [← hW1] | (change Code.wp _ _ _ _ ((w.alloc (.cells (flC f).toArray 25)).alloc (.cells (flC fl0).toArray 25)); rw [← hW1])
  have HB := Lib.hid hB
  have HA := Lib.hid hA
  have HZ := Lib.hid hZ
  clear hW1 hB hA hZ
  have c_mip : W1.cell? ⟨w.heap.size, 4, none⟩ = some (.int .u32 (U f.mip)) := HA.out.cell 4
  have c_ml : W1.cell? ⟨w.heap.size, 2, none⟩ = some (.int .u32 (U f.ml)) := HA.out.cell 2
  have f_4 : W1.frozen? ⟨w.heap.size, 4, none⟩ = false := HA.out.frozen 4
  go_upto_region 20 with (first | (go_at_call 29; (with_reducible refine (HM.out _).mono ?_); rintro e w5 ⟨rfl, hq⟩; replace hq := hq.symm; subst hq))
  obtain ⟨W2, hW2⟩ : ∃ W, W = W1.setCell ⟨w.heap.size, 4, none⟩ (.int .u32 (U (maskB f.mip v (f.ml &&& 2#32)))) := ⟨_, rfl⟩
  have hA2 : At W2 w.heap.size 25 (flC { f with mip := maskB f.mip v (f.ml &&& 2#32) }) := by rw [hW2]; exact (HA.out.put 4 (.int .u32 (U (maskB f.mip v (f.ml &&& 2#32))))).as rfl
  have hZ2 : At W2 (w.heap.size + 1) 25 (flC fl0) := by rw [hW2]; exact HZ.out.far (by simp) _
  have hB2 : Below w.heap.size w W2 := by rw [hW2]; exact HB.out.setCell (Nat.le_refl _) _
  first | rw [← hW2] | (change Code.wp _ _ _ _ (W1.setCell ⟨w.heap.size, 4, none⟩ (.int .u32 (U (maskB f.mip v (f.ml &&& 2#32))))); rw [← hW2])
  have HA2 := Lib.hid hA2
  have HZ2 := Lib.hid hZ2
  have HB2 := Lib.hid hB2
  clear hW2 hA2 hZ2 hB2
  go_wp2_with (first | (refine wpList_ldS (flC { f with mip := maskB f.mip v (f.ml &&& 2#32) }) _ HA2.out (by rfl) rfl rfl Try.underlying25 rfl r13fl_size rfl ?_) | (refine wpList_stS (z := flC fl0) (flC { f with mip := maskB f.mip v (f.ml &&& 2#32) }) _ _ HZ2.out rfl rfl rfl rfl r13fl_size rfl rfl (fl_one _) ?_; intro w3 hA3 hT3; have HR3 := Lib.hid hA3; have TR3 := Lib.hid hT3; clear hA3 hT3))
  exact bodyPost_ret (res_S1 Try.results30 Try.underlying25 r13fl_size rfl _ rfl HR3.out) rfl ⟨rfl, HB2.out.trans (TR3.out.below (B := w.heap.size) (fun k hk => by unfold Just at hk; omega) HB2.out.size)⟩

set_option maxHeartbeats 1000000 in
theorem r13su_384 (f : FileM) (v : BitVec 32) (w : World) : Calls Try.prog 30 #[.agg (flC f).toArray, .int .i64 384, .int .u32 (U v)] w fun e w' => e = .returned (.agg (flC (wrF f 384 v)).toArray) ∧ Below w.heap.size w w' := by
  rw [wrF_384]
  go_enter Try.func30, Try.ntmps30
  go_upto_region 1 with (fail)
  obtain ⟨W1, hW1⟩ : ∃ W, W = (w.alloc (.cells (flC f).toArray 25)).alloc (.cells (flC fl0).toArray 25) := ⟨_, rfl⟩
  have hB := below_two w (.cells (flC f).toArray 25) (.cells (flC fl0).toArray 25)
  have hA : At W1 w.heap.size 25 (flC f) := by rw [hW1]; exact (At.news w 25 (flC f)).alloc _
  have hZ : At W1 (w.heap.size + 1) 25 (flC fl0) := by rw [hW1]; exact At.alloc_new _ 25 (flC fl0) (by simp) rfl
  rw [← hW1] at hB
  first | rw [← hW1] | (change Code.wp _ _ _ _ ((w.alloc (.cells (flC f).toArray 25)).alloc (.cells (flC fl0).toArray 25)); rw [← hW1])
  have HB := Lib.hid hB
  have HA := Lib.hid hA
  have HZ := Lib.hid hZ
  clear hW1 hB hA hZ
  have c_satp : W1.cell? ⟨w.heap.size, 15, none⟩ = some (.int .u32 (U f.satp)) := HA.out.cell 15
  have f_15 : W1.frozen? ⟨w.heap.size, 15, none⟩ = false := HA.out.frozen 15
  go_upto_region 20 with (fail)
  obtain ⟨W2, hW2⟩ : ∃ W, W = W1.setCell ⟨w.heap.size, 15, none⟩ (.int .u32 (U (v))) := ⟨_, rfl⟩
  have hA2 : At W2 w.heap.size 25 (flC { f with satp := v }) := by rw [hW2]; exact (HA.out.put 15 (.int .u32 (U (v)))).as rfl
  have hZ2 : At W2 (w.heap.size + 1) 25 (flC fl0) := by rw [hW2]; exact HZ.out.far (by simp) _
  have hB2 : Below w.heap.size w W2 := by rw [hW2]; exact HB.out.setCell (Nat.le_refl _) _
  first | rw [← hW2] | (change Code.wp _ _ _ _ (W1.setCell ⟨w.heap.size, 15, none⟩ (.int .u32 (U (v)))); rw [← hW2])
  have HA2 := Lib.hid hA2
  have HZ2 := Lib.hid hZ2
  have HB2 := Lib.hid hB2
  clear hW2 hA2 hZ2 hB2
  go_wp2_with (first | (refine wpList_ldS (flC { f with satp := v }) _ HA2.out (by rfl) rfl rfl Try.underlying25 rfl r13fl_size rfl ?_) | (refine wpList_stS (z := flC fl0) (flC { f with satp := v }) _ _ HZ2.out rfl rfl rfl rfl r13fl_size rfl rfl (fl_one _) ?_; intro w3 hA3 hT3; have HR3 := Lib.hid hA3; have TR3 := Lib.hid hT3; clear hA3 hT3))
  exact bodyPost_ret (res_S1 Try.results30 Try.underlying25 r13fl_size rfl _ rfl HR3.out) rfl ⟨rfl, HB2.out.trans (TR3.out.below (B := w.heap.size) (fun k hk => by unfold Just at hk; omega) HB2.out.size)⟩

set_option maxHeartbeats 1000000 in
theorem r13su_no (f : FileM) (n : Int) (v : BitVec 32) (w : World) (hA : ¬ (n = 256 ∨ n = 260 ∨ n = 261 ∨ n = 320 ∨ n = 321 ∨ n = 322 ∨ n = 323 ∨ n = 324 ∨ n = 384)) : Calls Try.prog 30 #[.agg (flC f).toArray, .int .i64 n, .int .u32 (U v)] w fun e w' => e = .returned (.agg (flC f).toArray) ∧ Below w.heap.size w w' := by
  simp only [not_or] at hA
  obtain ⟨a256, a260, a261, a320, a321, a322, a323, a324, a384⟩ := hA
  go_enter Try.func30, Try.ntmps30
  go_upto_region 1 with (fail)
  obtain ⟨W1, hW1⟩ : ∃ W, W = (w.alloc (.cells (flC f).toArray 25)).alloc (.cells (flC fl0).toArray 25) := ⟨_, rfl⟩
  have hB := below_two w (.cells (flC f).toArray 25) (.cells (flC fl0).toArray 25)
  have hA : At W1 w.heap.size 25 (flC f) := by rw [hW1]; exact (At.news w 25 (flC f)).alloc _
  have hZ : At W1 (w.heap.size + 1) 25 (flC fl0) := by rw [hW1]; exact At.alloc_new _ 25 (flC fl0) (by simp) rfl
  rw [← hW1] at hB
  first | rw [← hW1] | (change Code.wp _ _ _ _ ((w.alloc (.cells (flC f).toArray 25)).alloc (.cells (flC fl0).toArray 25)); rw [← hW1])
  have HB := Lib.hid hB
  have HA := Lib.hid hA
  have HZ := Lib.hid hZ
  clear hW1 hB hA hZ
  go_wp2_with (first | (refine wpList_ldS (flC f) _ HA.out (by rfl) rfl rfl Try.underlying25 rfl r13fl_size rfl ?_) | (refine wpList_stS (z := flC fl0) (flC f) _ _ HZ.out rfl rfl rfl rfl r13fl_size rfl rfl (fl_one _) ?_; intro w3 hA3 hT3; have HR3 := Lib.hid hA3; have TR3 := Lib.hid hT3; clear hA3 hT3))
  exact bodyPost_ret (res_S1 Try.results30 Try.underlying25 r13fl_size rfl _ rfl HR3.out) rfl ⟨rfl, HB.out.trans (TR3.out.below (B := w.heap.size) (fun k hk => by unfold Just at hk; omega) HB.out.size)⟩

end Go.Proofs.Ytedpeojgpnnddaa
