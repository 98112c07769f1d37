/- CsrViews: of views of a lower privilege no bit beside their mask is read, or changed. -/
import Derived.Test.YtedpeojgpnnddaaCsrV
import Derived.Test.YtedpeojgpnnddaaCsrE
import Derived.Deep.DeepCutAuto
namespace Go.Proofs.Ytedpeojgpnnddaa
open Go.RowKit Bm

namespace Bm
theorem out_mask (o v m : BitVec 32) : (maskB o v m ^^^ o) &&& ~~~m = 0#32 := by
  apply gb_ext; intro i h0 h1
  rw [gb_and, gb_not, gb_xor, gb_mask _ _ _ _ h0 h1, gb_zero]
  cases gb m i <;> simp
theorem in_mask (o m : BitVec 32) : (o &&& m) &&& ~~~m = 0#32 := by
  apply gb_ext; intro i h0 h1
  rw [gb_and, gb_and, gb_not, gb_zero]
  cases gb m i <;> simp
end Bm
set_option maxHeartbeats 4000000 in
theorem csrViews_walk (f : FileM) (a1 : Int) (b1 : (Lit.int .u32 a1).wf = true) (w : World) :
    Calls Try.prog 8 #[.agg (flC f).toArray, .int .u32 a1] w fun e w' => e = .returned (.bool true) ∧ Below w.heap.size w w' := by
  have be := bounds_u32 b1
  obtain ⟨v, rfl⟩ := U_of be.1 (by omega)
  have HX : Hid (∀ W, Calls Try.prog 13 #[.agg (flC f).toArray, .int .i64 256, .int .i64 1, .int .u32 (U v)] W fun e w' => e = .returned (.tuple #[.agg (flC (wrF f 256 v)).toArray, .bool true]) ∧ Below W.heap.size W w') := Lib.hid (fun W => write13_any f 256 1 v W)
  have HY : Hid (∀ W, Calls Try.prog 13 #[.agg (flC f).toArray, .int .i64 260, .int .i64 1, .int .u32 (U v)] W fun e w' => e = .returned (.tuple #[.agg (flC (wrF f 260 v)).toArray, .bool true]) ∧ Below W.heap.size W w') := Lib.hid (fun W => write13_any f 260 1 v W)
  have HZ : Hid (∀ W, Calls Try.prog 13 #[.agg (flC f).toArray, .int .i64 324, .int .i64 1, .int .u32 (U v)] W fun e w' => e = .returned (.tuple #[.agg (flC (wrF f 324 v)).toArray, .bool true]) ∧ Below W.heap.size W w') := Lib.hid (fun W => write13_any f 324 1 v W)
  have HR : Hid (∀ W, Calls Try.prog 11 #[.agg (flC f).toArray, .int .i64 256, .int .i64 1] W fun e w' => e = .returned (.tuple #[.int .u32 (U (f.st &&& 786722#32)), .bool true]) ∧ Below W.heap.size W w') := Lib.hid (fun W => read13_any f 256 1 W)
  have q1 : bits .andNot .u32 (U ((wrF f 256 v).st ^^^ f.st)) 786722 = 0 := (U_andNot _ 786722#32).trans (by rw [wrF_256]; show U ((maskB f.st v 786722#32 ^^^ f.st) &&& ~~~786722#32) = 0; rw [out_mask]; rfl)
  have q2 : U (((wrF f 260 v).mie ^^^ f.mie) &&& ~~~f.ml) = 0 := by rw [wrF_260]; show U ((maskB f.mie v f.ml ^^^ f.mie) &&& ~~~f.ml) = 0; rw [out_mask]; rfl
  have q3 : bits .and .u32 (U f.ml) 2 = U (f.ml &&& 2#32) := U_and f.ml 2#32
  have q4 : U (((wrF f 324 v).mip ^^^ f.mip) &&& ~~~(f.ml &&& 2#32)) = 0 := by rw [wrF_324]; show U ((maskB f.mip v (f.ml &&& 2#32) ^^^ f.mip) &&& ~~~(f.ml &&& 2#32)) = 0; rw [out_mask]; rfl
  have q5 : bits .andNot .u32 (U (f.st &&& 786722#32)) 786722 = 0 := (U_andNot _ 786722#32).trans (by rw [in_mask]; rfl)
  generalize f.st &&& 786722#32 = rs at *
  generalize wrF f 256 v = X at *
  generalize wrF f 260 v = Y at *
  generalize wrF f 324 v = Z at *
  clear b1 be
  go_enter Try.func8, Try.ntmps8
  go_upto_region 1 with (fail)
  obtain ⟨W1, hW1⟩ : ∃ W, W = w.alloc (.cells (flC f).toArray 25) := ⟨_, rfl⟩
  have hB := (Below.refl w.heap.size w).alloc (Nat.le_refl _) (.cells (flC f).toArray 25)
  have hA : At W1 w.heap.size 25 (flC f) := by rw [hW1]; exact At.news w 25 (flC f)
  rw [← hW1] at hB
  try rw [← hW1]
  have LW1 := Lib.hid hB
  have A1 := Lib.hid hA
  clear hW1 hB hA
  go_upto_region 7 with (first
    | (go_at_call 10; (with_reducible refine (alive13_any _).mono ?_); rintro e w2 ⟨rfl, hb⟩; have A2 := Lib.hid (A1.out.keep hb); have Lw2 := Lib.hid (LW1.out.trans (hb.mono LW1.out.size)); clear hb)
    | (refine wpList_ldS (flC f) _ A2.out (by rfl) rfl rfl Try.underlying25 rfl r13fl_size rfl ?_)
    | (go_at_call 13; (with_reducible refine (HX.out _).mono ?_); rintro e w3 ⟨rfl, hb⟩; have A3 := Lib.hid (A2.out.keep hb); have Lw3 := Lib.hid (Lw2.out.trans (hb.mono Lw2.out.size)); clear hb)
    | (refine wpList_newS 29 [.int .u32 0, .int .u32 0, .int .u32 0, .int .u32 0, .int .u32 0, .int .u32 0, .int .u32 0, .int .u32 0, .int .u32 0, .int .u32 0, .int .u32 0, .int .u32 0, .int .u32 0, .int .u32 0, .int .u32 0, .int .u32 0, .int .u64 0] (flC X) w3 _ _ rfl rfl rfl rfl rfl cfl_size rfl rfl (fl_one _) ?_; intro w4 hA hb; have X4 := Lib.hid hA; have A4 := Lib.hid (A3.out.keep hb); have Lw4 := Lib.hid (Lw3.out.trans (hb.mono Lw3.out.size)); clear hA hb)
    | (refine wpList_ldS (flC f) _ A4.out (by rfl) rfl rfl Try.underlying25 rfl r13fl_size rfl ?_)
    | (go_at_call 13; (with_reducible refine (HY.out _).mono ?_); rintro e w5 ⟨rfl, hb⟩; have A5 := Lib.hid (A4.out.keep hb); have X5 := Lib.hid (X4.out.keep hb); have Lw5 := Lib.hid (Lw4.out.trans (hb.mono Lw4.out.size)); clear hb)
    | (refine wpList_newS 29 [.int .u32 0, .int .u32 0, .int .u32 0, .int .u32 0, .int .u32 0, .int .u32 0, .int .u32 0, .int .u32 0, .int .u32 0, .int .u32 0, .int .u32 0, .int .u32 0, .int .u32 0, .int .u32 0, .int .u32 0, .int .u32 0, .int .u64 0] (flC Y) w5 _ _ rfl rfl rfl rfl rfl cfl_size rfl rfl (fl_one _) ?_; intro w6 hA hb; have Y6 := Lib.hid hA; have A6 := Lib.hid (A5.out.keep hb); have X6 := Lib.hid (X5.out.keep hb); have Lw6 := Lib.hid (Lw5.out.trans (hb.mono Lw5.out.size)); clear hA hb)
    | (refine wpList_ldS (flC f) _ A6.out (by rfl) rfl rfl Try.underlying25 rfl r13fl_size rfl ?_)
    | (go_at_call 13; (with_reducible refine (HZ.out _).mono ?_); rintro e w7 ⟨rfl, hb⟩; have A7 := Lib.hid (A6.out.keep hb); have X7 := Lib.hid (X6.out.keep hb); have Y7 := Lib.hid (Y6.out.keep hb); have Lw7 := Lib.hid (Lw6.out.trans (hb.mono Lw6.out.size)); clear hb)
    | (refine wpList_newS 29 [.int .u32 0, .int .u32 0, .int .u32 0, .int .u32 0, .int .u32 0, .int .u32 0, .int .u32 0, .int .u32 0, .int .u32 0, .int .u32 0, .int .u32 0, .int .u32 0, .int .u32 0, .int .u32 0, .int .u32 0, .int .u32 0, .int .u64 0] (flC Z) w7 _ _ rfl rfl rfl rfl rfl cfl_size rfl rfl (fl_one _) ?_; intro w8 hA hb; have Z8 := Lib.hid hA; have A8 := Lib.hid (A7.out.keep hb); have X8 := Lib.hid (X7.out.keep hb); have Y8 := Lib.hid (Y7.out.keep hb); have Lw8 := Lib.hid (Lw7.out.trans (hb.mono Lw7.out.size)); clear hA hb)
    | (refine wpList_ldS (flC f) _ A8.out (by rfl) rfl rfl Try.underlying25 rfl r13fl_size rfl ?_)
    | (go_at_call 11; (with_reducible refine (HR.out _).mono ?_); rintro e w9 ⟨rfl, hb⟩; have A9 := Lib.hid (A8.out.keep hb); have X9 := Lib.hid (X8.out.keep hb); have Y9 := Lib.hid (Y8.out.keep hb); have Z9 := Lib.hid (Z8.out.keep hb); have Lw9 := Lib.hid (Lw8.out.trans (hb.mono Lw8.out.size)); clear hb))
  have c1 : w9.cell? ⟨w.heap.size, 0, none⟩ = some (.int .u32 (U f.st)) := A9.out.cell 0
  have c2 : w9.cell? ⟨w.heap.size, 2, none⟩ = some (.int .u32 (U f.ml)) := A9.out.cell 2
  have c3 : w9.cell? ⟨w.heap.size, 3, none⟩ = some (.int .u32 (U f.mie)) := A9.out.cell 3
  have c4 : w9.cell? ⟨w.heap.size, 4, none⟩ = some (.int .u32 (U f.mip)) := A9.out.cell 4
  have c5 : w9.cell? ⟨w3.heap.size, 0, none⟩ = some (.int .u32 (U X.st)) := X9.out.cell 0
  have c6 : w9.cell? ⟨w5.heap.size, 3, none⟩ = some (.int .u32 (U Y.mie)) := Y9.out.cell 3
  have c7 : w9.cell? ⟨w7.heap.size, 4, none⟩ = some (.int .u32 (U Z.mip)) := Z9.out.cell 4
  go_wp2
  go_ret
  exact ⟨by simp, Lw9.out⟩
end Go.Proofs.Ytedpeojgpnnddaa
