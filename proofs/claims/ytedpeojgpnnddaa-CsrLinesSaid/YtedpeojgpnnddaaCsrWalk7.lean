/- CsrLines: devices set just their own bits. -/
import Derived.Test.YtedpeojgpnnddaaCsrV
import Derived.Test.YtedpeojgpnnddaaCsrE
import Derived.Deep.DeepCutAuto
namespace Go.Proofs.Ytedpeojgpnnddaa
open Go.RowKit Bm

namespace Bm
theorem ln_twice (f : FileM) (a b : BitVec 32) : lnM (lnM f a) b = lnM f b := by
  unfold lnM
  congr 1
  apply gb_ext; intro i h0 h1
  simp only [gb_mask _ _ _ _ h0 h1]
  split <;> rfl
theorem ln_out (f : FileM) (b : BitVec 32) : (lnM f b).mip &&& ~~~2184#32 = f.mip &&& ~~~2184#32 := by
  apply gb_ext; intro i h0 h1
  show gb (maskB f.mip b 2184#32 &&& ~~~2184#32) i = _
  rw [gb_and, gb_and, gb_not, gb_mask _ _ _ _ h0 h1]
  cases gb 2184#32 i <;> simp
theorem ln_in (f : FileM) (b : BitVec 32) : (lnM f b).mip &&& 2184#32 = b &&& 2184#32 := by
  apply gb_ext; intro i h0 h1
  show gb (maskB f.mip b 2184#32 &&& 2184#32) i = _
  rw [gb_and, gb_and, gb_mask _ _ _ _ h0 h1]
  cases gb 2184#32 i <;> simp
end Bm
set_option maxHeartbeats 4000000 in
theorem csrLines_walk (f : FileM) (a1 : Int) (b1 : (Lit.int .u32 a1).wf = true) (a2 : Int) (b2 : (Lit.int .u32 a2).wf = true) (w : World) :
    Calls Try.prog 9 #[.agg (flC f).toArray, .int .u32 a1, .int .u32 a2] w fun e w' => e = .returned (.bool true) ∧ Below w.heap.size w w' := by
  have be := bounds_u32 b1
  have bf := bounds_u32 b2
  obtain ⟨a, rfl⟩ := U_of be.1 (by omega)
  obtain ⟨b, rfl⟩ := U_of bf.1 (by omega)
  have HX := Lib.hid (fun W => lines13_any f a W)
  have HY := Lib.hid (fun W => lines13_any (lnM f a) b W)
  rw [ln_twice] at HY
  have HZ := Lib.hid (fun W => lines13_any f b W)
  have o1 := ln_out f b
  have o2 := ln_in f b
  have q1 : bits .andNot .u32 (U (lnM f b).mip) 2184 = U (f.mip &&& ~~~2184#32) := (U_andNot (lnM f b).mip 2184#32).trans (by rw [o1])
  have q2 : bits .andNot .u32 (U f.mip) 2184 = U (f.mip &&& ~~~2184#32) := U_andNot f.mip 2184#32
  have q3 : bits .and .u32 (U (lnM f b).mip) 2184 = U (b &&& 2184#32) := (U_and (lnM f b).mip 2184#32).trans (by rw [o2])
  have q4 : bits .and .u32 (U b) 2184 = U (b &&& 2184#32) := U_and b 2184#32
  have hs : Hid ((flC (lnM f a)).set 4 (.int .u32 (U f.mip)) = flC f) := Lib.hid rfl
  obtain ⟨X, hX⟩ : ∃ X, X = lnM f a := ⟨_, rfl⟩
  obtain ⟨Y, hY⟩ : ∃ Y, Y = lnM f b := ⟨_, rfl⟩
  rw [← hX] at HX HY hs
  rw [← hY] at HY HZ q1 q3
  have e1 : ∀ W, (Op.equalIn 10000 29 (.agg (flC Y).toArray) (.agg (flC Y).toArray)).run Try.prog W = .ok true W := fun W => by rw [run_eqC]; simp
  have e2 : ∀ W, (Op.equalIn 10000 29 (.agg (flC f).toArray) (.agg (flC f).toArray)).run Try.prog W = .ok true W := fun W => by rw [run_eqC]; simp
  clear b1 b2 be bf o1 o2 hX hY
  go_enter Try.func9, Try.ntmps9
  go_upto_region 1 with (fail)
  obtain ⟨W1, hW1⟩ : ∃ W, W = w.alloc (.cells (flC f).toArray 25) := ⟨_, rfl⟩
  have hB := (Below.refl w.heap.size w).alloc (Nat.le_refl _) (.cells (flC f).toArray 25)
  have hA : At W1 w.heap.size 25 (flC f) := by rw [hW1]; exact At.news w 25 (flC f)
  rw [← hW1] at hB
  try rw [← hW1]
  have LW1 := Lib.hid hB
  have A1 := Lib.hid hA
  clear hW1 hB hA
  go_upto_region 6 with (first
    | (go_at_call 10; (with_reducible refine (alive13_any _).mono ?_); rintro e w2 ⟨rfl, hb⟩; have A2 := Lib.hid (A1.out.keep hb); have Lw2 := Lib.hid (LW1.out.trans (hb.mono LW1.out.size)); clear hb)
    | (refine wpList_ldS (flC f) _ A2.out (by rfl) rfl rfl Try.underlying25 rfl r13fl_size rfl ?_)
    | (go_at_call 15; (with_reducible refine (HX.out _).mono ?_); rintro e w3 ⟨rfl, hb⟩; have A3 := Lib.hid (A2.out.keep hb); have Lw3 := Lib.hid (Lw2.out.trans (hb.mono Lw2.out.size)); clear hb)
    | (refine wpList_newS 29 [.int .u32 0, .int .u32 0, .int .u32 0, .int .u32 0, .int .u32 0, .int .u32 0, .int .u32 0, .int .u32 0, .int .u32 0, .int .u32 0, .int .u32 0, .int .u32 0, .int .u32 0, .int .u32 0, .int .u32 0, .int .u32 0, .int .u64 0] (flC X) w3 _ _ rfl rfl rfl rfl rfl cfl_size rfl rfl (fl_one _) ?_; intro w4 hA hb; have X4 := Lib.hid hA; have A4 := Lib.hid (A3.out.keep hb); have Lw4 := Lib.hid (Lw3.out.trans (hb.mono Lw3.out.size)); clear hA hb)
    | (refine wpList_ldS (flC X) _ X4.out (by rfl) rfl rfl Try.underlying29 rfl cfl_size rfl ?_)
    | (go_at_call 15; (with_reducible refine (HY.out _).mono ?_); rintro e w5 ⟨rfl, hb⟩; have A5 := Lib.hid (A4.out.keep hb); have X5 := Lib.hid (X4.out.keep hb); have Lw5 := Lib.hid (Lw4.out.trans (hb.mono Lw4.out.size)); clear hb)
    | (refine wpList_newS 29 [.int .u32 0, .int .u32 0, .int .u32 0, .int .u32 0, .int .u32 0, .int .u32 0, .int .u32 0, .int .u32 0, .int .u32 0, .int .u32 0, .int .u32 0, .int .u32 0, .int .u32 0, .int .u32 0, .int .u32 0, .int .u32 0, .int .u64 0] (flC Y) w5 _ _ rfl rfl rfl rfl rfl cfl_size rfl rfl (fl_one _) ?_; intro w6 hA hb; have Y6 := Lib.hid hA; have A6 := Lib.hid (A5.out.keep hb); have X6 := Lib.hid (X5.out.keep hb); have Lw6 := Lib.hid (Lw5.out.trans (hb.mono Lw5.out.size)); clear hA hb)
    | (refine wpList_ldS (flC f) _ A6.out (by rfl) rfl rfl Try.underlying25 rfl r13fl_size rfl ?_)
    | (go_at_call 15; (with_reducible refine (HZ.out _).mono ?_); rintro e w7 ⟨rfl, hb⟩; have A7 := Lib.hid (A6.out.keep hb); have X7 := Lib.hid (X6.out.keep hb); have Y7 := Lib.hid (Y6.out.keep hb); have Lw7 := Lib.hid (Lw6.out.trans (hb.mono Lw6.out.size)); clear hb)
    | (refine wpList_newS 29 [.int .u32 0, .int .u32 0, .int .u32 0, .int .u32 0, .int .u32 0, .int .u32 0, .int .u32 0, .int .u32 0, .int .u32 0, .int .u32 0, .int .u32 0, .int .u32 0, .int .u32 0, .int .u32 0, .int .u32 0, .int .u32 0, .int .u64 0] (flC Y) w7 _ _ rfl rfl rfl rfl rfl cfl_size rfl rfl (fl_one _) ?_; intro w8 hA hb; have Z8 := Lib.hid hA; have A8 := Lib.hid (A7.out.keep hb); have X8 := Lib.hid (X7.out.keep hb); have Y8 := Lib.hid (Y7.out.keep hb); have Lw8 := Lib.hid (Lw7.out.trans (hb.mono Lw7.out.size)); clear hA hb))
  have c1 : w8.cell? ⟨w.heap.size, 4, none⟩ = some (.int .u32 (U f.mip)) := A8.out.cell 4
  have c2 : w8.cell? ⟨w3.heap.size, 4, none⟩ = some (.int .u32 (U X.mip)) := X8.out.cell 4
  have d2 : w8.frozen? ⟨w3.heap.size, 4, none⟩ = false := X8.out.frozen 4
  go_upto_region 7 with (fail)
  have hw13 : w.heap.size < w3.heap.size := A3.out.lt
  have hw35 : w3.heap.size < w5.heap.size := X5.out.lt
  have hw57 : w5.heap.size < w7.heap.size := Y7.out.lt
  obtain ⟨V, hV⟩ : ∃ V, V = w8.setCell ⟨w3.heap.size, 4, none⟩ (.int .u32 (U f.mip)) := ⟨_, rfl⟩
  have AV : At V w.heap.size 25 (flC f) := by rw [hV]; exact A8.out.far (by simp; omega) _
  have XV : At V w3.heap.size 29 (flC f) := by rw [hV]; exact (X8.out.put 4 (.int .u32 (U f.mip))).as hs.out
  have YV : At V w5.heap.size 29 (flC Y) := by rw [hV]; exact Y8.out.far (by simp; omega) _
  have ZV : At V w7.heap.size 29 (flC Y) := by rw [hV]; exact Z8.out.far (by simp; omega) _
  have BV : Below w.heap.size w V := by rw [hV]; exact Lw8.out.setCell (by simp; omega) _
  first | rw [← hV] | (change Code.wp _ _ _ _ (w8.setCell ⟨w3.heap.size, 4, none⟩ (.int .u32 (U f.mip))); rw [← hV])
  have c3 : V.cell? ⟨w.heap.size, 4, none⟩ = some (.int .u32 (U f.mip)) := AV.cell 4
  have c4 : V.cell? ⟨w5.heap.size, 4, none⟩ = some (.int .u32 (U Y.mip)) := YV.cell 4
  have HAV := Lib.hid AV
  have HXV := Lib.hid XV
  have HYV := Lib.hid YV
  have HZV := Lib.hid ZV
  have HBV := Lib.hid BV
  clear hV c1 c2 d2 AV XV YV ZV BV hw13 hw35 hw57
  go_wp2_with (first | (refine wpList_ldS (flC Y) _ HYV.out (by rfl) rfl rfl Try.underlying29 rfl cfl_size rfl ?_) | (refine wpList_ldS (flC Y) _ HZV.out (by rfl) rfl rfl Try.underlying29 rfl cfl_size rfl ?_) | (refine wpList_ldS (flC f) _ HXV.out (by rfl) rfl rfl Try.underlying29 rfl cfl_size rfl ?_) | (refine wpList_ldS (flC f) _ HAV.out (by rfl) rfl rfl Try.underlying25 rfl r13fl_size rfl ?_))
  go_ret
  exact ⟨by simp, HBV.out⟩
end Go.Proofs.Ytedpeojgpnnddaa
