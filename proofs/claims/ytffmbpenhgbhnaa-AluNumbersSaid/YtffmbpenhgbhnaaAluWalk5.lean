/- AluNumbers: with a number in the place of a register it is the same. -/
import Derived.Test.YtffmbpenhgbhnaaAluV
import Derived.Deep.DeepCutAuto
namespace Go.Proofs.Ytffmbpenhgbhnaa
open Go.RowKit Bm

/-- Do's answer by a name that has a result, the name's number behind Add being k. -/
theorem do_of (n : Int) (k : Nat) (a b : BitVec 32) (h : sameN n - 28 = k) (hk : k ≤ 17) (W : World) : Calls Try.prog 12 #[.int .i64 n, .int .u32 (U a), .int .u32 (U b)] W fun e w' => e = .returned (.tuple #[.int .u32 (U (aOp k a b)), .bool true]) ∧ ∃ k, w' = W.drewN k := by
  have e : doIs n = true := by
    unfold doIs
    have h0 : 28 ≤ sameN n := by omega
    have h1 : sameN n ≤ 45 := by omega
    simp [h0, h1]
  have e2 : doM n a b = aOp k a b := by
    unfold doM
    rw [e, h]
    rfl
  have := do_any n a b W
  rw [e, e2] at this
  exact this
set_option maxHeartbeats 2000000 in
theorem num12_0 (a0 : Int) (hw : IntKind.i64.wrap a0 = a0) (hk : a0.tmod 9 = 0) (a b : BitVec 32) (w : World) :
    Calls Try.prog 7 #[.int .u8 a0, .int .u32 (U a), .int .u32 (U b)] w fun e w' => e = .returned (.bool true) ∧ Below w.heap.size w w' := by
  have HA := Lib.hid alive12_any
  have HP := Lib.hid (fun W => do_of 19 0 a b (by decide) (by decide) W)
  have HQ := Lib.hid (fun W => do_of 28 0 a b (by decide) (by decide) W)
  generalize aOp 0 a b = r at *
  go_enter Try.func7, Try.ntmps7
  go_upto_region 4 with (go_at_call 11; (with_reducible refine (HA.out _).mono ?_); rintro e w5 ⟨rfl, k, hq⟩; replace hq := hq.symm; subst hq)
  obtain ⟨W1, hW1⟩ : ∃ W, W = (w.drewN k).alloc (.cells #[.int .i64 19, .int .i64 28, .int .i64 20, .int .i64 31, .int .i64 21, .int .i64 32, .int .i64 22, .int .i64 33, .int .i64 23, .int .i64 36, .int .i64 24, .int .i64 37, .int .i64 25, .int .i64 30, .int .i64 26, .int .i64 34, .int .i64 27, .int .i64 35] 35) := ⟨_, rfl⟩
  have hB := (below_drewN (Below.refl w.heap.size w) k).alloc (Nat.le_refl _) (.cells #[.int .i64 19, .int .i64 28, .int .i64 20, .int .i64 31, .int .i64 21, .int .i64 32, .int .i64 22, .int .i64 33, .int .i64 23, .int .i64 36, .int .i64 24, .int .i64 37, .int .i64 25, .int .i64 30, .int .i64 26, .int .i64 34, .int .i64 27, .int .i64 35] 35)
  have hc : At W1 w.heap.size 35 [.int .i64 19, .int .i64 28, .int .i64 20, .int .i64 31, .int .i64 21, .int .i64 32, .int .i64 22, .int .i64 33, .int .i64 23, .int .i64 36, .int .i64 24, .int .i64 37, .int .i64 25, .int .i64 30, .int .i64 26, .int .i64 34, .int .i64 27, .int .i64 35] := by rw [hW1]; exact At.news (w.drewN k) 35 [.int .i64 19, .int .i64 28, .int .i64 20, .int .i64 31, .int .i64 21, .int .i64 32, .int .i64 22, .int .i64 33, .int .i64 23, .int .i64 36, .int .i64 24, .int .i64 37, .int .i64 25, .int .i64 30, .int .i64 26, .int .i64 34, .int .i64 27, .int .i64 35]
  rw [← hW1] at hB
  try rw [← hW1]
  have c0 := hc.cell 0
  have c1 := hc.cell 1
  have f0 := hc.frozen 0
  have f1 := hc.frozen 1
  simp only [List.getElem?_cons_zero, List.getElem?_cons_succ] at c0 c1
  have HB := Lib.hid hB
  clear hW1 hc hB
  go_wp2_with (first | (go_at_call 12; (with_reducible refine (HP.out _).mono ?_); rintro e w5 ⟨rfl, k, hq⟩; replace hq := hq.symm; subst hq) | (go_at_call 12; (with_reducible refine (HQ.out _).mono ?_); rintro e w5 ⟨rfl, k, hq⟩; replace hq := hq.symm; subst hq))
  go_ret
  exact ⟨by simp, below_drewN (HB.out.alloc HB.out.size _) _⟩
set_option maxHeartbeats 2000000 in
theorem num12_1 (a0 : Int) (hw : IntKind.i64.wrap a0 = a0) (hk : a0.tmod 9 = 1) (a b : BitVec 32) (w : World) :
    Calls Try.prog 7 #[.int .u8 a0, .int .u32 (U a), .int .u32 (U b)] w fun e w' => e = .returned (.bool true) ∧ Below w.heap.size w w' := by
  have HA := Lib.hid alive12_any
  have HP := Lib.hid (fun W => do_of 20 3 a b (by decide) (by decide) W)
  have HQ := Lib.hid (fun W => do_of 31 3 a b (by decide) (by decide) W)
  generalize aOp 3 a b = r at *
  go_enter Try.func7, Try.ntmps7
  go_upto_region 4 with (go_at_call 11; (with_reducible refine (HA.out _).mono ?_); rintro e w5 ⟨rfl, k, hq⟩; replace hq := hq.symm; subst hq)
  obtain ⟨W1, hW1⟩ : ∃ W, W = (w.drewN k).alloc (.cells #[.int .i64 19, .int .i64 28, .int .i64 20, .int .i64 31, .int .i64 21, .int .i64 32, .int .i64 22, .int .i64 33, .int .i64 23, .int .i64 36, .int .i64 24, .int .i64 37, .int .i64 25, .int .i64 30, .int .i64 26, .int .i64 34, .int .i64 27, .int .i64 35] 35) := ⟨_, rfl⟩
  have hB := (below_drewN (Below.refl w.heap.size w) k).alloc (Nat.le_refl _) (.cells #[.int .i64 19, .int .i64 28, .int .i64 20, .int .i64 31, .int .i64 21, .int .i64 32, .int .i64 22, .int .i64 33, .int .i64 23, .int .i64 36, .int .i64 24, .int .i64 37, .int .i64 25, .int .i64 30, .int .i64 26, .int .i64 34, .int .i64 27, .int .i64 35] 35)
  have hc : At W1 w.heap.size 35 [.int .i64 19, .int .i64 28, .int .i64 20, .int .i64 31, .int .i64 21, .int .i64 32, .int .i64 22, .int .i64 33, .int .i64 23, .int .i64 36, .int .i64 24, .int .i64 37, .int .i64 25, .int .i64 30, .int .i64 26, .int .i64 34, .int .i64 27, .int .i64 35] := by rw [hW1]; exact At.news (w.drewN k) 35 [.int .i64 19, .int .i64 28, .int .i64 20, .int .i64 31, .int .i64 21, .int .i64 32, .int .i64 22, .int .i64 33, .int .i64 23, .int .i64 36, .int .i64 24, .int .i64 37, .int .i64 25, .int .i64 30, .int .i64 26, .int .i64 34, .int .i64 27, .int .i64 35]
  rw [← hW1] at hB
  try rw [← hW1]
  have c0 := hc.cell 2
  have c1 := hc.cell 3
  have f0 := hc.frozen 2
  have f1 := hc.frozen 3
  simp only [List.getElem?_cons_zero, List.getElem?_cons_succ] at c0 c1
  have HB := Lib.hid hB
  clear hW1 hc hB
  go_wp2_with (first | (go_at_call 12; (with_reducible refine (HP.out _).mono ?_); rintro e w5 ⟨rfl, k, hq⟩; replace hq := hq.symm; subst hq) | (go_at_call 12; (with_reducible refine (HQ.out _).mono ?_); rintro e w5 ⟨rfl, k, hq⟩; replace hq := hq.symm; subst hq))
  go_ret
  exact ⟨by simp, below_drewN (HB.out.alloc HB.out.size _) _⟩
set_option maxHeartbeats 2000000 in
theorem num12_2 (a0 : Int) (hw : IntKind.i64.wrap a0 = a0) (hk : a0.tmod 9 = 2) (a b : BitVec 32) (w : World) :
    Calls Try.prog 7 #[.int .u8 a0, .int .u32 (U a), .int .u32 (U b)] w fun e w' => e = .returned (.bool true) ∧ Below w.heap.size w w' := by
  have HA := Lib.hid alive12_any
  have HP := Lib.hid (fun W => do_of 21 4 a b (by decide) (by decide) W)
  have HQ := Lib.hid (fun W => do_of 32 4 a b (by decide) (by decide) W)
  generalize aOp 4 a b = r at *
  go_enter Try.func7, Try.ntmps7
  go_upto_region 4 with (go_at_call 11; (with_reducible refine (HA.out _).mono ?_); rintro e w5 ⟨rfl, k, hq⟩; replace hq := hq.symm; subst hq)
  obtain ⟨W1, hW1⟩ : ∃ W, W = (w.drewN k).alloc (.cells #[.int .i64 19, .int .i64 28, .int .i64 20, .int .i64 31, .int .i64 21, .int .i64 32, .int .i64 22, .int .i64 33, .int .i64 23, .int .i64 36, .int .i64 24, .int .i64 37, .int .i64 25, .int .i64 30, .int .i64 26, .int .i64 34, .int .i64 27, .int .i64 35] 35) := ⟨_, rfl⟩
  have hB := (below_drewN (Below.refl w.heap.size w) k).alloc (Nat.le_refl _) (.cells #[.int .i64 19, .int .i64 28, .int .i64 20, .int .i64 31, .int .i64 21, .int .i64 32, .int .i64 22, .int .i64 33, .int .i64 23, .int .i64 36, .int .i64 24, .int .i64 37, .int .i64 25, .int .i64 30, .int .i64 26, .int .i64 34, .int .i64 27, .int .i64 35] 35)
  have hc : At W1 w.heap.size 35 [.int .i64 19, .int .i64 28, .int .i64 20, .int .i64 31, .int .i64 21, .int .i64 32, .int .i64 22, .int .i64 33, .int .i64 23, .int .i64 36, .int .i64 24, .int .i64 37, .int .i64 25, .int .i64 30, .int .i64 26, .int .i64 34, .int .i64 27, .int .i64 35] := by rw [hW1]; exact At.news (w.drewN k) 35 [.int .i64 19, .int .i64 28, .int .i64 20, .int .i64 31, .int .i64 21, .int .i64 32, .int .i64 22, .int .i64 33, .int .i64 23, .int .i64 36, .int .i64 24, .int .i64 37, .int .i64 25, .int .i64 30, .int .i64 26, .int .i64 34, .int .i64 27, .int .i64 35]
  rw [← hW1] at hB
  try rw [← hW1]
  have c0 := hc.cell 4
  have c1 := hc.cell 5
  have f0 := hc.frozen 4
  have f1 := hc.frozen 5
  simp only [List.getElem?_cons_zero, List.getElem?_cons_succ] at c0 c1
  have HB := Lib.hid hB
  clear hW1 hc hB
  go_wp2_with (first | (go_at_call 12; (with_reducible refine (HP.out _).mono ?_); rintro e w5 ⟨rfl, k, hq⟩; replace hq := hq.symm; subst hq) | (go_at_call 12; (with_reducible refine (HQ.out _).mono ?_); rintro e w5 ⟨rfl, k, hq⟩; replace hq := hq.symm; subst hq))
  go_ret
  exact ⟨by simp, below_drewN (HB.out.alloc HB.out.size _) _⟩
set_option maxHeartbeats 2000000 in
theorem num12_3 (a0 : Int) (hw : IntKind.i64.wrap a0 = a0) (hk : a0.tmod 9 = 3) (a b : BitVec 32) (w : World) :
    Calls Try.prog 7 #[.int .u8 a0, .int .u32 (U a), .int .u32 (U b)] w fun e w' => e = .returned (.bool true) ∧ Below w.heap.size w w' := by
  have HA := Lib.hid alive12_any
  have HP := Lib.hid (fun W => do_of 22 5 a b (by decide) (by decide) W)
  have HQ := Lib.hid (fun W => do_of 33 5 a b (by decide) (by decide) W)
  generalize aOp 5 a b = r at *
  go_enter Try.func7, Try.ntmps7
  go_upto_region 4 with (go_at_call 11; (with_reducible refine (HA.out _).mono ?_); rintro e w5 ⟨rfl, k, hq⟩; replace hq := hq.symm; subst hq)
  obtain ⟨W1, hW1⟩ : ∃ W, W = (w.drewN k).alloc (.cells #[.int .i64 19, .int .i64 28, .int .i64 20, .int .i64 31, .int .i64 21, .int .i64 32, .int .i64 22, .int .i64 33, .int .i64 23, .int .i64 36, .int .i64 24, .int .i64 37, .int .i64 25, .int .i64 30, .int .i64 26, .int .i64 34, .int .i64 27, .int .i64 35] 35) := ⟨_, rfl⟩
  have hB := (below_drewN (Below.refl w.heap.size w) k).alloc (Nat.le_refl _) (.cells #[.int .i64 19, .int .i64 28, .int .i64 20, .int .i64 31, .int .i64 21, .int .i64 32, .int .i64 22, .int .i64 33, .int .i64 23, .int .i64 36, .int .i64 24, .int .i64 37, .int .i64 25, .int .i64 30, .int .i64 26, .int .i64 34, .int .i64 27, .int .i64 35] 35)
  have hc : At W1 w.heap.size 35 [.int .i64 19, .int .i64 28, .int .i64 20, .int .i64 31, .int .i64 21, .int .i64 32, .int .i64 22, .int .i64 33, .int .i64 23, .int .i64 36, .int .i64 24, .int .i64 37, .int .i64 25, .int .i64 30, .int .i64 26, .int .i64 34, .int .i64 27, .int .i64 35] := by rw [hW1]; exact At.news (w.drewN k) 35 [.int .i64 19, .int .i64 28, .int .i64 20, .int .i64 31, .int .i64 21, .int .i64 32, .int .i64 22, .int .i64 33, .int .i64 23, .int .i64 36, .int .i64 24, .int .i64 37, .int .i64 25, .int .i64 30, .int .i64 26, .int .i64 34, .int .i64 27, .int .i64 35]
  rw [← hW1] at hB
  try rw [← hW1]
  have c0 := hc.cell 6
  have c1 := hc.cell 7
  have f0 := hc.frozen 6
  have f1 := hc.frozen 7
  simp only [List.getElem?_cons_zero, List.getElem?_cons_succ] at c0 c1
  have HB := Lib.hid hB
  clear hW1 hc hB
  go_wp2_with (first | (go_at_call 12; (with_reducible refine (HP.out _).mono ?_); rintro e w5 ⟨rfl, k, hq⟩; replace hq := hq.symm; subst hq) | (go_at_call 12; (with_reducible refine (HQ.out _).mono ?_); rintro e w5 ⟨rfl, k, hq⟩; replace hq := hq.symm; subst hq))
  go_ret
  exact ⟨by simp, below_drewN (HB.out.alloc HB.out.size _) _⟩
set_option maxHeartbeats 2000000 in
theorem num12_4 (a0 : Int) (hw : IntKind.i64.wrap a0 = a0) (hk : a0.tmod 9 = 4) (a b : BitVec 32) (w : World) :
    Calls Try.prog 7 #[.int .u8 a0, .int .u32 (U a), .int .u32 (U b)] w fun e w' => e = .returned (.bool true) ∧ Below w.heap.size w w' := by
  have HA := Lib.hid alive12_any
  have HP := Lib.hid (fun W => do_of 23 8 a b (by decide) (by decide) W)
  have HQ := Lib.hid (fun W => do_of 36 8 a b (by decide) (by decide) W)
  generalize aOp 8 a b = r at *
  go_enter Try.func7, Try.ntmps7
  go_upto_region 4 with (go_at_call 11; (with_reducible refine (HA.out _).mono ?_); rintro e w5 ⟨rfl, k, hq⟩; replace hq := hq.symm; subst hq)
  obtain ⟨W1, hW1⟩ : ∃ W, W = (w.drewN k).alloc (.cells #[.int .i64 19, .int .i64 28, .int .i64 20, .int .i64 31, .int .i64 21, .int .i64 32, .int .i64 22, .int .i64 33, .int .i64 23, .int .i64 36, .int .i64 24, .int .i64 37, .int .i64 25, .int .i64 30, .int .i64 26, .int .i64 34, .int .i64 27, .int .i64 35] 35) := ⟨_, rfl⟩
  have hB := (below_drewN (Below.refl w.heap.size w) k).alloc (Nat.le_refl _) (.cells #[.int .i64 19, .int .i64 28, .int .i64 20, .int .i64 31, .int .i64 21, .int .i64 32, .int .i64 22, .int .i64 33, .int .i64 23, .int .i64 36, .int .i64 24, .int .i64 37, .int .i64 25, .int .i64 30, .int .i64 26, .int .i64 34, .int .i64 27, .int .i64 35] 35)
  have hc : At W1 w.heap.size 35 [.int .i64 19, .int .i64 28, .int .i64 20, .int .i64 31, .int .i64 21, .int .i64 32, .int .i64 22, .int .i64 33, .int .i64 23, .int .i64 36, .int .i64 24, .int .i64 37, .int .i64 25, .int .i64 30, .int .i64 26, .int .i64 34, .int .i64 27, .int .i64 35] := by rw [hW1]; exact At.news (w.drewN k) 35 [.int .i64 19, .int .i64 28, .int .i64 20, .int .i64 31, .int .i64 21, .int .i64 32, .int .i64 22, .int .i64 33, .int .i64 23, .int .i64 36, .int .i64 24, .int .i64 37, .int .i64 25, .int .i64 30, .int .i64 26, .int .i64 34, .int .i64 27, .int .i64 35]
  rw [← hW1] at hB
  try rw [← hW1]
  have c0 := hc.cell 8
  have c1 := hc.cell 9
  have f0 := hc.frozen 8
  have f1 := hc.frozen 9
  simp only [List.getElem?_cons_zero, List.getElem?_cons_succ] at c0 c1
  have HB := Lib.hid hB
  clear hW1 hc hB
  go_wp2_with (first | (go_at_call 12; (with_reducible refine (HP.out _).mono ?_); rintro e w5 ⟨rfl, k, hq⟩; replace hq := hq.symm; subst hq) | (go_at_call 12; (with_reducible refine (HQ.out _).mono ?_); rintro e w5 ⟨rfl, k, hq⟩; replace hq := hq.symm; subst hq))
  go_ret
  exact ⟨by simp, below_drewN (HB.out.alloc HB.out.size _) _⟩
set_option maxHeartbeats 2000000 in
theorem num12_5 (a0 : Int) (hw : IntKind.i64.wrap a0 = a0) (hk : a0.tmod 9 = 5) (a b : BitVec 32) (w : World) :
    Calls Try.prog 7 #[.int .u8 a0, .int .u32 (U a), .int .u32 (U b)] w fun e w' => e = .returned (.bool true) ∧ Below w.heap.size w w' := by
  have HA := Lib.hid alive12_any
  have HP := Lib.hid (fun W => do_of 24 9 a b (by decide) (by decide) W)
  have HQ := Lib.hid (fun W => do_of 37 9 a b (by decide) (by decide) W)
  generalize aOp 9 a b = r at *
  go_enter Try.func7, Try.ntmps7
  go_upto_region 4 with (go_at_call 11; (with_reducible refine (HA.out _).mono ?_); rintro e w5 ⟨rfl, k, hq⟩; replace hq := hq.symm; subst hq)
  obtain ⟨W1, hW1⟩ : ∃ W, W = (w.drewN k).alloc (.cells #[.int .i64 19, .int .i64 28, .int .i64 20, .int .i64 31, .int .i64 21, .int .i64 32, .int .i64 22, .int .i64 33, .int .i64 23, .int .i64 36, .int .i64 24, .int .i64 37, .int .i64 25, .int .i64 30, .int .i64 26, .int .i64 34, .int .i64 27, .int .i64 35] 35) := ⟨_, rfl⟩
  have hB := (below_drewN (Below.refl w.heap.size w) k).alloc (Nat.le_refl _) (.cells #[.int .i64 19, .int .i64 28, .int .i64 20, .int .i64 31, .int .i64 21, .int .i64 32, .int .i64 22, .int .i64 33, .int .i64 23, .int .i64 36, .int .i64 24, .int .i64 37, .int .i64 25, .int .i64 30, .int .i64 26, .int .i64 34, .int .i64 27, .int .i64 35] 35)
  have hc : At W1 w.heap.size 35 [.int .i64 19, .int .i64 28, .int .i64 20, .int .i64 31, .int .i64 21, .int .i64 32, .int .i64 22, .int .i64 33, .int .i64 23, .int .i64 36, .int .i64 24, .int .i64 37, .int .i64 25, .int .i64 30, .int .i64 26, .int .i64 34, .int .i64 27, .int .i64 35] := by rw [hW1]; exact At.news (w.drewN k) 35 [.int .i64 19, .int .i64 28, .int .i64 20, .int .i64 31, .int .i64 21, .int .i64 32, .int .i64 22, .int .i64 33, .int .i64 23, .int .i64 36, .int .i64 24, .int .i64 37, .int .i64 25, .int .i64 30, .int .i64 26, .int .i64 34, .int .i64 27, .int .i64 35]
  rw [← hW1] at hB
  try rw [← hW1]
  have c0 := hc.cell 10
  have c1 := hc.cell 11
  have f0 := hc.frozen 10
  have f1 := hc.frozen 11
  simp only [List.getElem?_cons_zero, List.getElem?_cons_succ] at c0 c1
  have HB := Lib.hid hB
  clear hW1 hc hB
  go_wp2_with (first | (go_at_call 12; (with_reducible refine (HP.out _).mono ?_); rintro e w5 ⟨rfl, k, hq⟩; replace hq := hq.symm; subst hq) | (go_at_call 12; (with_reducible refine (HQ.out _).mono ?_); rintro e w5 ⟨rfl, k, hq⟩; replace hq := hq.symm; subst hq))
  go_ret
  exact ⟨by simp, below_drewN (HB.out.alloc HB.out.size _) _⟩
set_option maxHeartbeats 2000000 in
theorem num12_6 (a0 : Int) (hw : IntKind.i64.wrap a0 = a0) (hk : a0.tmod 9 = 6) (a b : BitVec 32) (w : World) :
    Calls Try.prog 7 #[.int .u8 a0, .int .u32 (U a), .int .u32 (U b)] w fun e w' => e = .returned (.bool true) ∧ Below w.heap.size w w' := by
  have HA := Lib.hid alive12_any
  have HP := Lib.hid (fun W => do_of 25 2 a b (by decide) (by decide) W)
  have HQ := Lib.hid (fun W => do_of 30 2 a b (by decide) (by decide) W)
  generalize aOp 2 a b = r at *
  go_enter Try.func7, Try.ntmps7
  go_upto_region 4 with (go_at_call 11; (with_reducible refine (HA.out _).mono ?_); rintro e w5 ⟨rfl, k, hq⟩; replace hq := hq.symm; subst hq)
  obtain ⟨W1, hW1⟩ : ∃ W, W = (w.drewN k).alloc (.cells #[.int .i64 19, .int .i64 28, .int .i64 20, .int .i64 31, .int .i64 21, .int .i64 32, .int .i64 22, .int .i64 33, .int .i64 23, .int .i64 36, .int .i64 24, .int .i64 37, .int .i64 25, .int .i64 30, .int .i64 26, .int .i64 34, .int .i64 27, .int .i64 35] 35) := ⟨_, rfl⟩
  have hB := (below_drewN (Below.refl w.heap.size w) k).alloc (Nat.le_refl _) (.cells #[.int .i64 19, .int .i64 28, .int .i64 20, .int .i64 31, .int .i64 21, .int .i64 32, .int .i64 22, .int .i64 33, .int .i64 23, .int .i64 36, .int .i64 24, .int .i64 37, .int .i64 25, .int .i64 30, .int .i64 26, .int .i64 34, .int .i64 27, .int .i64 35] 35)
  have hc : At W1 w.heap.size 35 [.int .i64 19, .int .i64 28, .int .i64 20, .int .i64 31, .int .i64 21, .int .i64 32, .int .i64 22, .int .i64 33, .int .i64 23, .int .i64 36, .int .i64 24, .int .i64 37, .int .i64 25, .int .i64 30, .int .i64 26, .int .i64 34, .int .i64 27, .int .i64 35] := by rw [hW1]; exact At.news (w.drewN k) 35 [.int .i64 19, .int .i64 28, .int .i64 20, .int .i64 31, .int .i64 21, .int .i64 32, .int .i64 22, .int .i64 33, .int .i64 23, .int .i64 36, .int .i64 24, .int .i64 37, .int .i64 25, .int .i64 30, .int .i64 26, .int .i64 34, .int .i64 27, .int .i64 35]
  rw [← hW1] at hB
  try rw [← hW1]
  have c0 := hc.cell 12
  have c1 := hc.cell 13
  have f0 := hc.frozen 12
  have f1 := hc.frozen 13
  simp only [List.getElem?_cons_zero, List.getElem?_cons_succ] at c0 c1
  have HB := Lib.hid hB
  clear hW1 hc hB
  go_wp2_with (first | (go_at_call 12; (with_reducible refine (HP.out _).mono ?_); rintro e w5 ⟨rfl, k, hq⟩; replace hq := hq.symm; subst hq) | (go_at_call 12; (with_reducible refine (HQ.out _).mono ?_); rintro e w5 ⟨rfl, k, hq⟩; replace hq := hq.symm; subst hq))
  go_ret
  exact ⟨by simp, below_drewN (HB.out.alloc HB.out.size _) _⟩
set_option maxHeartbeats 2000000 in
theorem num12_7 (a0 : Int) (hw : IntKind.i64.wrap a0 = a0) (hk : a0.tmod 9 = 7) (a b : BitVec 32) (w : World) :
    Calls Try.prog 7 #[.int .u8 a0, .int .u32 (U a), .int .u32 (U b)] w fun e w' => e = .returned (.bool true) ∧ Below w.heap.size w w' := by
  have HA := Lib.hid alive12_any
  have HP := Lib.hid (fun W => do_of 26 6 a b (by decide) (by decide) W)
  have HQ := Lib.hid (fun W => do_of 34 6 a b (by decide) (by decide) W)
  generalize aOp 6 a b = r at *
  go_enter Try.func7, Try.ntmps7
  go_upto_region 4 with (go_at_call 11; (with_reducible refine (HA.out _).mono ?_); rintro e w5 ⟨rfl, k, hq⟩; replace hq := hq.symm; subst hq)
  obtain ⟨W1, hW1⟩ : ∃ W, W = (w.drewN k).alloc (.cells #[.int .i64 19, .int .i64 28, .int .i64 20, .int .i64 31, .int .i64 21, .int .i64 32, .int .i64 22, .int .i64 33, .int .i64 23, .int .i64 36, .int .i64 24, .int .i64 37, .int .i64 25, .int .i64 30, .int .i64 26, .int .i64 34, .int .i64 27, .int .i64 35] 35) := ⟨_, rfl⟩
  have hB := (below_drewN (Below.refl w.heap.size w) k).alloc (Nat.le_refl _) (.cells #[.int .i64 19, .int .i64 28, .int .i64 20, .int .i64 31, .int .i64 21, .int .i64 32, .int .i64 22, .int .i64 33, .int .i64 23, .int .i64 36, .int .i64 24, .int .i64 37, .int .i64 25, .int .i64 30, .int .i64 26, .int .i64 34, .int .i64 27, .int .i64 35] 35)
  have hc : At W1 w.heap.size 35 [.int .i64 19, .int .i64 28, .int .i64 20, .int .i64 31, .int .i64 21, .int .i64 32, .int .i64 22, .int .i64 33, .int .i64 23, .int .i64 36, .int .i64 24, .int .i64 37, .int .i64 25, .int .i64 30, .int .i64 26, .int .i64 34, .int .i64 27, .int .i64 35] := by rw [hW1]; exact At.news (w.drewN k) 35 [.int .i64 19, .int .i64 28, .int .i64 20, .int .i64 31, .int .i64 21, .int .i64 32, .int .i64 22, .int .i64 33, .int .i64 23, .int .i64 36, .int .i64 24, .int .i64 37, .int .i64 25, .int .i64 30, .int .i64 26, .int .i64 34, .int .i64 27, .int .i64 35]
  rw [← hW1] at hB
  try rw [← hW1]
  have c0 := hc.cell 14
  have c1 := hc.cell 15
  have f0 := hc.frozen 14
  have f1 := hc.frozen 15
  simp only [List.getElem?_cons_zero, List.getElem?_cons_succ] at c0 c1
  have HB := Lib.hid hB
  clear hW1 hc hB
  go_wp2_with (first | (go_at_call 12; (with_reducible refine (HP.out _).mono ?_); rintro e w5 ⟨rfl, k, hq⟩; replace hq := hq.symm; subst hq) | (go_at_call 12; (with_reducible refine (HQ.out _).mono ?_); rintro e w5 ⟨rfl, k, hq⟩; replace hq := hq.symm; subst hq))
  go_ret
  exact ⟨by simp, below_drewN (HB.out.alloc HB.out.size _) _⟩
set_option maxHeartbeats 2000000 in
theorem num12_8 (a0 : Int) (hw : IntKind.i64.wrap a0 = a0) (hk : a0.tmod 9 = 8) (a b : BitVec 32) (w : World) :
    Calls Try.prog 7 #[.int .u8 a0, .int .u32 (U a), .int .u32 (U b)] w fun e w' => e = .returned (.bool true) ∧ Below w.heap.size w w' := by
  have HA := Lib.hid alive12_any
  have HP := Lib.hid (fun W => do_of 27 7 a b (by decide) (by decide) W)
  have HQ := Lib.hid (fun W => do_of 35 7 a b (by decide) (by decide) W)
  generalize aOp 7 a b = r at *
  go_enter Try.func7, Try.ntmps7
  go_upto_region 4 with (go_at_call 11; (with_reducible refine (HA.out _).mono ?_); rintro e w5 ⟨rfl, k, hq⟩; replace hq := hq.symm; subst hq)
  obtain ⟨W1, hW1⟩ : ∃ W, W = (w.drewN k).alloc (.cells #[.int .i64 19, .int .i64 28, .int .i64 20, .int .i64 31, .int .i64 21, .int .i64 32, .int .i64 22, .int .i64 33, .int .i64 23, .int .i64 36, .int .i64 24, .int .i64 37, .int .i64 25, .int .i64 30, .int .i64 26, .int .i64 34, .int .i64 27, .int .i64 35] 35) := ⟨_, rfl⟩
  have hB := (below_drewN (Below.refl w.heap.size w) k).alloc (Nat.le_refl _) (.cells #[.int .i64 19, .int .i64 28, .int .i64 20, .int .i64 31, .int .i64 21, .int .i64 32, .int .i64 22, .int .i64 33, .int .i64 23, .int .i64 36, .int .i64 24, .int .i64 37, .int .i64 25, .int .i64 30, .int .i64 26, .int .i64 34, .int .i64 27, .int .i64 35] 35)
  have hc : At W1 w.heap.size 35 [.int .i64 19, .int .i64 28, .int .i64 20, .int .i64 31, .int .i64 21, .int .i64 32, .int .i64 22, .int .i64 33, .int .i64 23, .int .i64 36, .int .i64 24, .int .i64 37, .int .i64 25, .int .i64 30, .int .i64 26, .int .i64 34, .int .i64 27, .int .i64 35] := by rw [hW1]; exact At.news (w.drewN k) 35 [.int .i64 19, .int .i64 28, .int .i64 20, .int .i64 31, .int .i64 21, .int .i64 32, .int .i64 22, .int .i64 33, .int .i64 23, .int .i64 36, .int .i64 24, .int .i64 37, .int .i64 25, .int .i64 30, .int .i64 26, .int .i64 34, .int .i64 27, .int .i64 35]
  rw [← hW1] at hB
  try rw [← hW1]
  have c0 := hc.cell 16
  have c1 := hc.cell 17
  have f0 := hc.frozen 16
  have f1 := hc.frozen 17
  simp only [List.getElem?_cons_zero, List.getElem?_cons_succ] at c0 c1
  have HB := Lib.hid hB
  clear hW1 hc hB
  go_wp2_with (first | (go_at_call 12; (with_reducible refine (HP.out _).mono ?_); rintro e w5 ⟨rfl, k, hq⟩; replace hq := hq.symm; subst hq) | (go_at_call 12; (with_reducible refine (HQ.out _).mono ?_); rintro e w5 ⟨rfl, k, hq⟩; replace hq := hq.symm; subst hq))
  go_ret
  exact ⟨by simp, below_drewN (HB.out.alloc HB.out.size _) _⟩
theorem aluNumbers_walk (a0 : Int) (b0 : (Lit.int .u8 a0).wf = true) (a1 : Int) (b1 : (Lit.int .u32 a1).wf = true) (a2 : Int) (b2 : (Lit.int .u32 a2).wf = true) (w : World) :
    Calls Try.prog 7 #[.int .u8 a0, .int .u32 a1, .int .u32 a2] w fun e w' => e = .returned (.bool true) ∧ Below w.heap.size w w' := by
  have bd := bounds_u8 b0
  have be := bounds_u32 b1
  have bf := bounds_u32 b2
  obtain ⟨a, rfl⟩ := U_of be.1 (by omega)
  obtain ⟨b, rfl⟩ := U_of bf.1 (by omega)
  have hw : IntKind.i64.wrap a0 = a0 := by rw [IntKind.wrap_i64]; omega
  have hm : a0.tmod 9 = a0 % 9 := Int.tmod_eq_emod_of_nonneg bd.1
  have c : a0 % 9 = 0 ∨ a0 % 9 = 1 ∨ a0 % 9 = 2 ∨ a0 % 9 = 3 ∨ a0 % 9 = 4 ∨ a0 % 9 = 5 ∨ a0 % 9 = 6 ∨ a0 % 9 = 7 ∨ a0 % 9 = 8 := by omega
  rcases c with c | c | c | c | c | c | c | c | c
  · exact num12_0 a0 hw (hm.trans c) a b w
  · exact num12_1 a0 hw (hm.trans c) a b w
  · exact num12_2 a0 hw (hm.trans c) a b w
  · exact num12_3 a0 hw (hm.trans c) a b w
  · exact num12_4 a0 hw (hm.trans c) a b w
  · exact num12_5 a0 hw (hm.trans c) a b w
  · exact num12_6 a0 hw (hm.trans c) a b w
  · exact num12_7 a0 hw (hm.trans c) a b w
  · exact num12_8 a0 hw (hm.trans c) a b w
end Go.Proofs.Ytffmbpenhgbhnaa
