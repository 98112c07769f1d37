/- The walk of layer page's statement PageCounts. -/
import Derived.Test.YtkjgbjcdpifamaaPageAlive
import Derived.Deep.RegionHeld3
import Derived.Deep.DeepCutAuto
import Derived.Lib.Hide
namespace Go.Proofs.Ytkjgbjcdpifamaa
open Go.RowKit Bm

set_option maxRecDepth 100000 in
set_option maxHeartbeats 4000000 in
theorem pageCounts_walk (x0 : Int) (hx0 : (Lit.int .u32 x0).wf = true) (A : Option Addr) (n cap : Nat) (xs : List (BitVec 32)) (a0 a1 : Int) (ha0 : (Lit.int .i64 a0).wf = true) (ha1 : (Lit.int .i64 a1).wf = true) (w : World) (hr : ReadsU w A n cap xs) :
    Calls Try.prog 4 #[.int .u32 x0, .slice A n cap, .agg #[.int .i64 a0, .int .i64 a1]] w fun e w' => e = .returned (.bool true) ∧ Below w.heap.size w w' := by
  have ca0 := bounds_i64 ha0
  have ca1 := bounds_i64 ha1
  have cx := bounds_u32 hx0
  obtain ⟨x, rfl⟩ := U_of cx.1 (by omega)
  have hle := hr.le
  clear ha0 ha1 hx0 cx
  have HAL := Lib.hid (fun W => alive4_any W)
  obtain ⟨Z0, hZ0⟩ : ∃ Z, Z = w.alloc (.cells [.int .i64 a0, .int .i64 a1].toArray 39) := ⟨_, rfl⟩
  have b0' : Below w.heap.size w Z0 := by rw [hZ0]; exact (Below.refl _ w).alloc (Nat.le_refl _) _
  have AZ : At Z0 w.heap.size 39 [.int .i64 a0, .int .i64 a1] := by rw [hZ0]; exact At.news w _ _
  have B0 := Lib.hid b0'
  have HZ := Lib.hid hZ0
  have AZZ := Lib.hid AZ
  clear b0' AZ hZ0
  go_enter Try.func4, Try.ntmps4
  go_upto_region 1 with fail
  change Code.wp _ _ _ _ (w.alloc (.cells [.int .i64 a0, .int .i64 a1].toArray 39))
  rw [← HZ.out]
  by_cases hn : 100 < n
  · go_wp2_with (go_at_call 9; (refine (HAL.out _).mono ?_); rintro e w1 ⟨rfl, hb⟩)
    go_ret
    exact ⟨rfl, below_then B0.out hb⟩
  have HR0 := Lib.hid (hr.kept B0.out)
  have hl : (hdWs x).length ≤ 1000000 := by rcases hdWs_len x with h | h <;> omega
  have HL := Lib.hid hl
  have PH := Lib.hid (fun W => pheader_any x W)
  have RH := Lib.hid (fun W => rheader_any x W)
  clear hl hr
  go_upto_region 7 with (first
    | (go_at_call 9; (refine (HAL.out _).mono ?_); rintro e w1 ⟨rfl, hb⟩; have HR1 := Lib.hid (HR0.out.kept hb); have AZ1 := Lib.hid (AZZ.out.on hb); have B1 := Lib.hid (below_then B0.out hb); clear hb)
    | (go_at_call 17; (refine (pcount_any _ _ _ _ _ HR1.out (by omega)).mono ?_); rintro e w2 ⟨rfl, hb⟩; have HR2 := Lib.hid (HR1.out.kept hb); have AZ2 := Lib.hid (AZ1.out.on hb); have B2 := Lib.hid (below_then B1.out hb); clear hb)
    | (go_at_call 18; (refine (rcount_any _ _ _ _ _ HR2.out (by omega)).mono ?_); rintro e w3 ⟨rfl, hb⟩; have AZ3 := AZ2.out.on hb; have z0 := AZ3.cell 0; have z1 := AZ3.cell 1; simp only [List.getElem?_cons_succ, List.getElem?_cons_zero] at z0 z1; have B3 := Lib.hid (below_then B2.out hb); have AZ3' := Lib.hid AZ3; clear hb AZ3))
  go_region_held3 (fun w' => w'.cell? ⟨w.heap.size, 0, none⟩ = some (.int .i64 a0) ∧ w'.cell? ⟨w.heap.size, 1, none⟩ = some (.int .i64 a1)) (go_keep)
    (first
      | (go_at_call 19; (refine (PH.out _).mono ?_); rintro e w4 ⟨A4, c4, rfl, h4, _, hb⟩; have HR4 := Lib.hid h4; have AZ4 := AZ3'.out.drew.on hb; have z40 := AZ4.cell 0; have z41 := AZ4.cell 1; simp only [List.getElem?_cons_succ, List.getElem?_cons_zero] at z40 z41; have B4 := Lib.hid (below_then B3.out ((Below.refl _ w3).drew.trans hb)); have AZ4' := Lib.hid AZ4; clear hb AZ4 h4)
      | (go_at_call 20; (refine (RH.out _).mono ?_); rintro e w5 ⟨A5, c5, rfl, h5, _, hb⟩; have HR5 := Lib.hid h5; have HR4' := Lib.hid (HR4.out.kept hb); have AZ5 := AZ4'.out.on hb; have z50 := AZ5.cell 0; have z51 := AZ5.cell 1; simp only [List.getElem?_cons_succ, List.getElem?_cons_zero] at z50 z51; have B5 := Lib.hid (below_then B4.out hb); clear hb AZ5 h5)
      | (go_at_call 14; (refine (same_words _ _ _ _ _ _ _ HR4'.out HR5.out HL.out).mono ?_); rintro e w6 ⟨rfl, mm, rfl⟩)
      | (go_at_call 21; (refine (pat_any _ _ _ (by omega) (by omega) (by omega) (by omega)).mono ?_); rintro e w7 ⟨rfl, rfl⟩)
      | (go_at_call 22; (refine (rat_any _ _ _ (by omega) (by omega) (by omega) (by omega)).mono ?_); rintro e w8 ⟨rfl, rfl⟩))
  go_wp2
  go_ret
  exact ⟨rfl, B5.out.trans (below_drewN' _ _ _)⟩
end Go.Proofs.Ytkjgbjcdpifamaa
