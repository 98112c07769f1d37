/- The walk of layer page's statement PagePlaces. -/
import Derived.Test.YtkjgbjcdpifamaaPageAlive
import Derived.BigRegion
import Derived.BigQuiet
import Derived.Deep.QuietTactic
import Derived.Deep.DeepCutAuto
import Derived.Lib.Hide
namespace Go.Proofs.Ytkjgbjcdpifamaa
open Go.RowKit Bm

theorem pgAt_yes {b k : Int} (b0 : 0 ≤ b) (b1 : b ≤ 63) (k0 : 0 ≤ k) (k1 : k ≤ 7) : pgAt b k = b * 64 + 4 + k * 7 := by unfold pgAt; rw [if_pos ⟨b0, b1, k0, k1⟩]

set_option maxRecDepth 100000 in
set_option maxHeartbeats 4000000 in
theorem pagePlaces_walk (a0 a1 : Int) (ha0 : (Lit.int .u8 a0).wf = true) (ha1 : (Lit.int .u8 a1).wf = true) (b0 b1 : Int) (hb0 : (Lit.int .u8 b0).wf = true) (hb1 : (Lit.int .u8 b1).wf = true) (w : World) :
    Calls Try.prog 7 #[.agg #[.int .u8 a0, .int .u8 a1], .agg #[.int .u8 b0, .int .u8 b1]] w fun e w' => e = .returned (.bool true) ∧ Below w.heap.size w w' := by
  have ca0 := bounds_u8 ha0
  have ca1 := bounds_u8 ha1
  have cb0 := bounds_u8 hb0
  have cb1 := bounds_u8 hb1
  clear ha0 ha1 hb0 hb1
  have HAL := Lib.hid (fun W => alive4_any W)
  go_enter Try.func7, Try.ntmps7
  go_upto_region 3 with (go_at_call 9; (refine (HAL.out _).mono ?_); rintro e w1 ⟨rfl, hb⟩)
  have e1 : (w.alloc (.cells [.int .u8 a0, .int .u8 a1].toArray 50)).heap.size = w.heap.size + 1 := by simp
  have b0' : Below w.heap.size w (w.alloc (.cells [.int .u8 a0, .int .u8 a1].toArray 50)) := (Below.refl _ w).alloc (Nat.le_refl _) _
  have AX := ((At.news w 50 [.int .u8 a0, .int .u8 a1]).alloc (.cells [.int .u8 b0, .int .u8 b1].toArray 50)).on hb
  have AY := (At.news (w.alloc (.cells [.int .u8 a0, .int .u8 a1].toArray 50)) 50 [.int .u8 b0, .int .u8 b1]).on hb
  rw [e1] at AY
  have B1 := Lib.hid (below_then (below_then b0' ((Below.refl _ (w.alloc (.cells [.int .u8 a0, .int .u8 a1].toArray 50))).alloc (Nat.le_refl _) (.cells [.int .u8 b0, .int .u8 b1].toArray 50))) hb)
  have x0 := AX.cell 0
  have x1 := AX.cell 1
  have y0 := AY.cell 0
  have y1 := AY.cell 1
  simp only [List.getElem?_cons_succ, List.getElem?_cons_zero] at x0 x1 y0 y1
  clear hb e1 b0' AX AY
  have ea := pgAt_yes (b := a0 % 64) (k := a1 % 8) (by omega) (by omega) (by omega) (by omega)
  have eb := pgAt_yes (b := b0 % 64) (k := b1 % 8) (by omega) (by omega) (by omega) (by omega)
  go_quiet ((go_at_call 21; exact Calls.quiet_of_same (pat_any _ _ _ (by omega) (by omega) (by omega) (by omega))))
  go_wp2
  all_goals first
    | (exfalso; omega)
    | (go_ret; first | exact ⟨rfl, B1.out.trans (below_drewN' _ _ _)⟩ | exact ⟨by first | (congr 2; simp; omega) | (congr 2; omega), B1.out.trans (below_drewN' _ _ _)⟩)
end Go.Proofs.Ytkjgbjcdpifamaa
