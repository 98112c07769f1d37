/- Read of package csr. -/
import Derived.Test.YtedpeojgpnnddaaCsrPa
import Derived.Test.YtedpeojgpnnddaaHold
namespace Go.Proofs.Ytedpeojgpnnddaa
open Go.RowKit Bm
theorem ld13P (ρ : Operand → Value) (d : Option Tmp) (x : Operand) (ty : TypeId) (pos : String) (af : Array Edge) (gd : Option (Nat × Bool)) (W : World) : (execOp ρ ⟨d, .load 29 x, ty, pos, af, gd⟩).run Try.prog W = (run_ex (loadOf 29) (ρ x) W).choose := load_is _ ρ d x ty pos af gd W
theorem ld13P_at {W : World} {g : Nat} {f : FileM} (h : At W g 29 (flC f)) : (run_ex (loadOf 29) (.pointer (some ⟨g, 0, none⟩)) W).choose = .ok (.value (.agg (flC f).toArray)) W := load_at Try.underlying29 rfl q13fl_size h.rng0 rfl
end Go.Proofs.Ytedpeojgpnnddaa
namespace Go.Proofs.Ytedpeojgpnnddaa
open Go.RowKit Bm
attribute [local go_sem ↓] Go.wp_at_zero Go.wp_at_succ ld13P

set_option maxRecDepth 100000 in
theorem q13read_up (f : FileM) (n p q : Int) (HL : ∀ W, Calls Try.prog 19 #[.int .i64 n] W fun e w' => e = .returned (.int .i64 q) ∧ w' = W) (c : p < q) (w : World) : Calls Try.prog 11 #[.agg (flC f).toArray, .int .i64 n, .int .i64 p] w fun e w' => e = .returned (.tuple #[.int .u32 0, .bool false]) ∧ Below w.heap.size w w' := by
  have HL := Lib.hid HL
  go_enter Try.func11, Try.ntmps11
  go_upto_region 1 with (fail)
  obtain ⟨W1, hW1⟩ : ∃ W, W = w.alloc (.cells (flC f).toArray 29) := ⟨_, rfl⟩
  have hB := (Below.refl w.heap.size w).alloc (Nat.le_refl _) (.cells (flC f).toArray 29)
  have hA : At W1 w.heap.size 29 (flC f) := by rw [hW1]; exact At.news w 29 (flC f)
  rw [← hW1] at hB
  try rw [← hW1]
  have HB := Lib.hid hB
  have HA := Lib.hid hA
  clear hW1 hB hA
  go_wp2_with (go_at_call 19; (with_reducible refine (HL.out _).mono ?_); rintro e w5 ⟨rfl, hq⟩; replace hq := hq.symm; subst hq)
  go_ret2
  exact ⟨rfl, HB.out⟩

set_option maxRecDepth 100000 in
theorem q13read_no (f : FileM) (n p q : Int) (r : BitVec 32) (s : Bool) (HL : ∀ W, Calls Try.prog 19 #[.int .i64 n] W fun e w' => e = .returned (.int .i64 q) ∧ w' = W) (HW : ∀ W g, Calls Try.prog 20 #[.pointer (some ⟨g, 0, none⟩), .int .i64 n] W fun e w' => e = .returned (.pointer none) ∧ w' = W) (c : ¬ p < q) (w : World) (HR : ∀ W, Calls Try.prog 22 #[.agg (flC f).toArray, .int .i64 n] W fun e w' => e = .returned (.tuple #[.int .u32 (U r), .bool s]) ∧ Below W.heap.size W w') : Calls Try.prog 11 #[.agg (flC f).toArray, .int .i64 n, .int .i64 p] w fun e w' => e = .returned (.tuple #[.int .u32 (U r), .bool s]) ∧ Below w.heap.size w w' := by
  have HL := Lib.hid HL
  have HW := Lib.hid HW
  have HR := Lib.hid HR
  go_enter Try.func11, Try.ntmps11
  go_upto_region 1 with (fail)
  obtain ⟨W1, hW1⟩ : ∃ W, W = w.alloc (.cells (flC f).toArray 29) := ⟨_, rfl⟩
  have hB := (Below.refl w.heap.size w).alloc (Nat.le_refl _) (.cells (flC f).toArray 29)
  have hA : At W1 w.heap.size 29 (flC f) := by rw [hW1]; exact At.news w 29 (flC f)
  rw [← hW1] at hB
  try rw [← hW1]
  have HB := Lib.hid hB
  have HA := Lib.hid hA
  clear hW1 hB hA
  go_upto_region 6 with (first | (go_at_call 19; (with_reducible refine (HL.out _).mono ?_); rintro e w5 ⟨rfl, hq⟩; replace hq := hq.symm; subst hq) | (go_at_call 20; (with_reducible refine (HW.out _ _).mono ?_); rintro e w5 ⟨rfl, hq⟩; replace hq := hq.symm; subst hq))
  go_wp2_with (first | (refine wpList_ldS (flC f) _ HA.out (by rfl) rfl rfl Try.underlying29 rfl q13fl_size rfl ?_) | (go_at_call 22; (with_reducible refine (HR.out _).mono ?_); rintro e w6 ⟨rfl, hb⟩; have BL6 := Lib.hid hb; clear hb))
  go_ret2
  exact ⟨rfl, HB.out.trans (BL6.out.mono HB.out.size)⟩

set_option maxRecDepth 100000 in
set_option maxHeartbeats 1000000 in
theorem q13read_word (f : FileM) (n p q : Int) (i : Nat) (x s : BitVec 32) (HL : ∀ W, Calls Try.prog 19 #[.int .i64 n] W fun e w' => e = .returned (.int .i64 q) ∧ w' = W) (HW : ∀ W g, Calls Try.prog 20 #[.pointer (some ⟨g, 0, none⟩), .int .i64 n] W fun e w' => e = .returned (.pointer (some ⟨g, i, none⟩)) ∧ w' = W) (HX : ∀ W g, At W g 29 (flC f) → W.cell? ⟨g, i, none⟩ = some (.int .u32 (U x))) (c : ¬ p < q) (w : World) (HS : ∀ W, Calls Try.prog 21 #[.agg (flC f).toArray, .int .i64 n] W fun e w' => e = .returned (.int .u32 (U s)) ∧ Below W.heap.size W w') : Calls Try.prog 11 #[.agg (flC f).toArray, .int .i64 n, .int .i64 p] w fun e w' => e = .returned (.tuple #[.int .u32 (U (x &&& s)), .bool true]) ∧ Below w.heap.size w w' := by
  have HL := Lib.hid HL
  have HW := Lib.hid HW
  have HS := Lib.hid HS
  have HX := Lib.hid HX
  go_enter Try.func11, Try.ntmps11
  go_upto_region 1 with (fail)
  obtain ⟨W1, hW1⟩ : ∃ W, W = w.alloc (.cells (flC f).toArray 29) := ⟨_, rfl⟩
  have hB := (Below.refl w.heap.size w).alloc (Nat.le_refl _) (.cells (flC f).toArray 29)
  have hA : At W1 w.heap.size 29 (flC f) := by rw [hW1]; exact At.news w 29 (flC f)
  rw [← hW1] at hB
  try rw [← hW1]
  have HB := Lib.hid hB
  have HA := Lib.hid hA
  clear hW1 hB hA
  go_upto_region 5 with (first | (go_at_call 19; (with_reducible refine (HL.out _).mono ?_); rintro e w5 ⟨rfl, hq⟩; replace hq := hq.symm; subst hq) | (go_at_call 20; (with_reducible refine (HW.out _ _).mono ?_); rintro e w5 ⟨rfl, hq⟩; replace hq := hq.symm; subst hq))
  have ea : ∀ W, Below W1.heap.size W1 W → (run_ex (loadOf 29) (.pointer (some ⟨w.heap.size, 0, none⟩)) W).choose = .ok (.value (.agg (flC f).toArray)) W := fun W h => ld13P_at (HA.out.keep h)
  have ex : ∀ W, Below W1.heap.size W1 W → W.cell? ⟨w.heap.size, i, none⟩ = some (.int .u32 (U x)) := fun W h => HX.out _ _ (HA.out.keep h)
  have S0 : Below W1.heap.size W1 W1 := Below.refl _ _
  go_region_held3 (fun W => Below W1.heap.size W1 W) (first | assumption | exact S0.drew) (first
    | (go_at_call 21; (with_reducible refine (HS.out _).mono ?_); rintro e v1 ⟨rfl, hb⟩; have S1 := Below.trans (by assumption) (hb.mono (Below.size (by assumption))); clear hb))
  go_wp2
  go_ret2
  exact ⟨rfl, HB.out.trans (Below.mono (by assumption) HB.out.size)⟩

end Go.Proofs.Ytedpeojgpnnddaa
