/- The walk of layer nor's statement NorPart. -/
import Derived.Test.YtmhkcbdkimnakaaNor5
import Derived.Test.YtmhkcbdkimnakaaNorLawMath
import Derived.Test.YtmhkcbdkimnakaaLaw
import Derived.OpenShut
namespace Go.Proofs.Ytmhkcbdkimnakaa
open Go.RowKit Bm

theorem pt_new (w : World) : Calls Try.prog 12 #[.int .i64 1, .int .i64 5] w (MadeChip w pt0) := new_yes 1 5 w (by omega) (by omega) (by omega) (by omega)
theorem pt_p1 (h : Hd) (x : BitVec 32) (w : World) (hc : ChipAt w h pt0) : Calls Try.prog 23 #[.pointer (some ⟨h.p, 0, none⟩), .int .i64 7, .int .u32 (U x)] w fun e w' => e = .returned (.int .i64 0) ∧ ChipAt w' h (pt1 x) ∧ Turned h.own w w' := by
  have := program_any h _ 1 7 x w hc pt0_ok
  rw [pt1_is] at this
  exact this
theorem pt_f2 (h : Hd) (x p : BitVec 32) (w : World) (hc : ChipAt w h (pt1 x)) : Calls Try.prog 21 #[.pointer (some ⟨h.p, 0, none⟩), .int .i64 1, .int .u32 (U p)] w fun e w' => e = .returned (.tuple #[]) ∧ ChipAt w' h (pt2 x p) ∧ Turned h.own w w' :=
  fuse_any h _ 1 p w hc (by show 1 ≤ 1; omega)
theorem pt_p3 (h : Hd) (x v p : BitVec 32) (w : World) (hc : ChipAt w h (pt2 x p)) : Calls Try.prog 23 #[.pointer (some ⟨h.p, 0, none⟩), .int .i64 7, .int .u32 (U v)] w fun e w' => e = .returned (.int .i64 4) ∧ ChipAt w' h (pt3 x v p) ∧ Turned h.own w w' := by
  have := program_any h _ 1 7 v w hc (pt2_ok x p)
  rw [pt3_is] at this
  exact this
theorem pt_u3 (h : Hd) (x v p : BitVec 32) (w : World) (hc : ChipAt w h (pt3 x v p)) : Calls Try.prog 15 #[.pointer (some ⟨h.p, 0, none⟩)] w fun e w' => e = .returned (.bool false) ∧ w' = w :=
  up_any h _ w hc
theorem pt_q3 (h : Hd) (x v p : BitVec 32) (w : World) (hc : ChipAt w h (pt3 x v p)) : Calls Try.prog 23 #[.pointer (some ⟨h.p, 0, none⟩), .int .i64 8, .int .u32 0] w fun e w' => e = .returned (.int .i64 4) ∧ ChipAt w' h (pt3 x v p) ∧ Turned h.own w w' := by
  have := program_any h _ 1 8 0#32 w hc (pt3_ok x v p)
  rw [off_program rfl] at this
  exact this
theorem pt_o4 (h : Hd) (x v p : BitVec 32) (w : World) (hc : ChipAt w h (pt3 x v p)) : Calls Try.prog 22 #[.pointer (some ⟨h.p, 0, none⟩)] w fun e w' => e = .returned (.tuple #[]) ∧ ChipAt w' h (pt4 x v p) ∧ Turned h.own w w' :=
  on_any h _ w hc (by show 1 ≤ 1; omega)
theorem pt_r4 (h : Hd) (x v p : BitVec 32) (w : World) (hc : ChipAt w h (pt4 x v p)) : Calls Try.prog 24 #[.pointer (some ⟨h.p, 0, none⟩), .int .i64 7] w fun e w' => e = .returned (.tuple #[.int .u32 (U (pX x v p)), .int .i64 0]) ∧ w' = w := by
  have := read_any h _ 1 7 w hc (pt4_ok x v p)
  rw [pt4_read] at this
  exact this
theorem pt_f5 (h : Hd) (x v p : BitVec 32) (w : World) (hc : ChipAt w h (pt4 x v p)) : Calls Try.prog 21 #[.pointer (some ⟨h.p, 0, none⟩), .int .i64 1, .int .u32 (U p)] w fun e w' => e = .returned (.tuple #[]) ∧ ChipAt w' h (pt5 x v p) ∧ Turned h.own w w' :=
  fuse_any h _ 1 p w hc (by show 1 ≤ 1; omega)
theorem pt_e6 (h : Hd) (x v p : BitVec 32) (w : World) (hc : ChipAt w h (pt5 x v p)) : Calls Try.prog 20 #[.pointer (some ⟨h.p, 0, none⟩), .int .i64 0] w fun e w' => e = .returned (.int .i64 4) ∧ ChipAt w' h (pt6 x v p) ∧ Turned h.own w w' := by
  have := erase_any h _ 1 0 w hc (pt5_ok x v p)
  rw [pt6_is] at this
  exact this
theorem pt_w6 (h : Hd) (x v p : BitVec 32) (w : World) (hc : ChipAt w h (pt6 x v p)) : Calls Try.prog 18 #[.pointer (some ⟨h.p, 0, none⟩), .int .i64 0] w fun e w' => e = .returned (.int .i64 1) ∧ w' = w :=
  wear_any h _ 0 w hc (by show 1 ≤ 64; omega)
theorem pt_o7 (h : Hd) (x v p : BitVec 32) (w : World) (hc : ChipAt w h (pt6 x v p)) : Calls Try.prog 22 #[.pointer (some ⟨h.p, 0, none⟩)] w fun e w' => e = .returned (.tuple #[]) ∧ ChipAt w' h (pt7 x v p) ∧ Turned h.own w w' :=
  on_any h _ w hc (by show 1 ≤ 1; omega)
theorem pt_r7 (h : Hd) (x v p : BitVec 32) (w : World) (hc : ChipAt w h (pt7 x v p)) : Calls Try.prog 24 #[.pointer (some ⟨h.p, 0, none⟩), .int .i64 7] w fun e w' => e = .returned (.tuple #[.int .u32 (U (pY x v p)), .int .i64 0]) ∧ w' = w := by
  have := read_any h _ 1 7 w hc (pt7_ok x v p)
  rw [pt7_read] at this
  exact this

set_option maxHeartbeats 2000000 in
theorem norPart_walk (a0 : Int) (b0 : (Lit.int .u32 a0).wf = true) (a1 : Int) (b1 : (Lit.int .u32 a1).wf = true) (a2 : Int) (b2 : (Lit.int .u32 a2).wf = true) (w : World) :
    Calls Try.prog 5 #[.int .u32 a0, .int .u32 a1, .int .u32 a2] w fun e w' => e = .returned (.bool true) ∧ Below w.heap.size w w' := by
  have c0 := bounds_u32 b0
  have c1 := bounds_u32 b1
  have c2 := bounds_u32 b2
  obtain ⟨x, rfl⟩ := U_of c0.1 (by omega)
  obtain ⟨v, rfl⟩ := U_of c1.1 (by omega)
  obtain ⟨p, rfl⟩ := U_of c2.1 (by omega)
  clear b0 b1 b2 c0 c1 c2
  go_enter Try.func5, Try.ntmps5
  go_wp2_with fail
  refine (alive_any w).mono ?_
  rintro e wa ⟨rfl, hBa⟩
  go_wp2_with fail
  refine (pt_new wa).mono ?_
  rintro e wn ⟨h, rfl, hc0, ho, hB⟩
  have hB1 : Below w.heap.size w wn := hBa.trans (hB.mono hBa.size)
  have ho1 : ∀ i, h.own i → w.heap.size ≤ i := fun i hi => Nat.le_trans hBa.size (ho i hi)
  clear hBa hB ho
  go_wp2_with fail
  refine (pt_p1 h x _ hc0).mono ?_
  rintro e w1 ⟨rfl, hc1, ht1⟩
  go_wp2_with fail
  refine (pt_f2 h x p _ hc1).mono ?_
  rintro e w2 ⟨rfl, hc2, ht2⟩
  go_wp2_with fail
  refine (pt_p3 h x v p _ hc2).mono ?_
  rintro e w3 ⟨rfl, hc3, ht3⟩
  go_wp2_with fail
  refine (pt_u3 h x v p _ hc3).mono ?_
  rintro e w3' ⟨rfl, rfl⟩
  go_wp2_with fail
  refine (pt_q3 h x v p _ hc3).mono ?_
  rintro e w4 ⟨rfl, hc3', ht3'⟩
  go_wp2_with fail
  refine (pt_o4 h x v p _ hc3').mono ?_
  rintro e w5 ⟨rfl, hc4, ht4⟩
  have t5 := ht1.trans (ht2.trans (ht3.trans (ht3'.trans ht4)))
  clear ht1 ht2 ht3 ht3' ht4 hc0 hc1 hc2 hc3 hc3'
  go_wp2_with fail
  refine (pt_r4 h x v p _ hc4).mono ?_
  rintro e w5' ⟨rfl, rfl⟩
  have X1 := pX_sub x v p
  have X2 := pX_sup x v p
  have Y1 := pY_sup x v p
  have rest : ∀ w6 w7 w8 : World, Turned h.own w5' w6 → Turned h.own w6 w7 → Turned h.own w7 w8 → Below w.heap.size w w8 := fun _ _ _ a b c => hB1.trans ((t5.trans (a.trans (b.trans c))).below ho1 hB1.size)
  have R := Lib.hid rest
  clear rest t5 hB1
  have U0 : U 0#32 = 0 := rfl
  have UO : (U ones == 4294967295) = true := rfl
  have key : (Hid ((U p == 0) = true ∧ (U p == 4294967295) = false ∧ pX x v p = x ∧ pY x v p = x) ∨ Hid ((U p == 0) = false ∧ (U p == 4294967295) = true ∧ pX x v p = x &&& v ∧ pY x v p = ones)) ∨ Hid ((U p == 0) = false ∧ (U p == 4294967295) = false) := by
    by_cases p0 : p = 0#32
    · subst p0
      exact .inl (.inl ⟨rfl, rfl, pX_none x v, by rw [pY_none, pX_none]⟩)
    · by_cases p1 : p = ones
      · subst p1
        exact .inl (.inr ⟨rfl, rfl, pX_ones x v, pY_ones x v⟩)
      · refine .inr ⟨?_, ?_⟩
        · rw [beq_eq_false_iff_ne]; intro h; exact p0 (U_inj h)
        · rw [beq_eq_false_iff_ne]; intro h; exact p1 (U_inj h)
  have nb : ∀ a b : Int, (a != b) = !(a == b) := fun _ _ => rfl
  rcases key with (key | key) | key
  · obtain ⟨P0, P1, Z1, Z2⟩ := key.out
    have N0 : (U p != 0) = false := by rw [nb, P0]; rfl
    have N1 : (U p != 4294967295) = true := by rw [nb, P1]; rfl
    clear nb key
    rw [Z1] at X1 X2
    rw [Z1, Z2] at Y1
    go_wp2_with fail
    refine (pt_f5 h x v p _ hc4).mono ?_
    rintro e w6 ⟨rfl, hc5, ht5⟩
    go_wp2_with fail
    refine (pt_e6 h x v p _ hc5).mono ?_
    rintro e w7 ⟨rfl, hc6, ht6⟩
    go_wp2_with fail
    refine (pt_w6 h x v p _ hc6).mono ?_
    rintro e w7' ⟨rfl, rfl⟩
    go_wp2_with fail
    refine (pt_o7 h x v p _ hc6).mono ?_
    rintro e w8 ⟨rfl, hc7, ht7⟩
    have fin := Lib.hid (R.out _ _ _ ht5 ht6 ht7)
    clear ht5 ht6 ht7 hc4 hc5 hc6
    go_wp2_with fail
    refine (pt_r7 h x v p _ hc7).mono ?_
    rintro e w8' ⟨rfl, rfl⟩
    go_wp2
    go_ret
    exact ⟨rfl, fin.out⟩
  · obtain ⟨P0, P1, Z1, Z2⟩ := key.out
    have N0 : (U p != 0) = true := by rw [nb, P0]; rfl
    have N1 : (U p != 4294967295) = false := by rw [nb, P1]; rfl
    clear nb key
    rw [Z1] at X1 X2
    rw [Z1, Z2] at Y1
    go_wp2_with fail
    refine (pt_f5 h x v p _ hc4).mono ?_
    rintro e w6 ⟨rfl, hc5, ht5⟩
    go_wp2_with fail
    refine (pt_e6 h x v p _ hc5).mono ?_
    rintro e w7 ⟨rfl, hc6, ht6⟩
    go_wp2_with fail
    refine (pt_w6 h x v p _ hc6).mono ?_
    rintro e w7' ⟨rfl, rfl⟩
    go_wp2_with fail
    refine (pt_o7 h x v p _ hc6).mono ?_
    rintro e w8 ⟨rfl, hc7, ht7⟩
    have fin := Lib.hid (R.out _ _ _ ht5 ht6 ht7)
    clear ht5 ht6 ht7 hc4 hc5 hc6
    go_wp2_with fail
    refine (pt_r7 h x v p _ hc7).mono ?_
    rintro e w8' ⟨rfl, rfl⟩
    go_wp2
    go_ret
    exact ⟨rfl, fin.out⟩
  · obtain ⟨P0, P1⟩ := key.out
    have N0 : (U p != 0) = true := by rw [nb, P0]; rfl
    have N1 : (U p != 4294967295) = true := by rw [nb, P1]; rfl
    clear nb key
    go_wp2_with fail
    refine (pt_f5 h x v p _ hc4).mono ?_
    rintro e w6 ⟨rfl, hc5, ht5⟩
    go_wp2_with fail
    refine (pt_e6 h x v p _ hc5).mono ?_
    rintro e w7 ⟨rfl, hc6, ht6⟩
    go_wp2_with fail
    refine (pt_w6 h x v p _ hc6).mono ?_
    rintro e w7' ⟨rfl, rfl⟩
    go_wp2_with fail
    refine (pt_o7 h x v p _ hc6).mono ?_
    rintro e w8 ⟨rfl, hc7, ht7⟩
    have fin := Lib.hid (R.out _ _ _ ht5 ht6 ht7)
    clear ht5 ht6 ht7 hc4 hc5 hc6
    go_wp2_with fail
    refine (pt_r7 h x v p _ hc7).mono ?_
    rintro e w8' ⟨rfl, rfl⟩
    go_wp2
    go_ret
    exact ⟨rfl, fin.out⟩
end Go.Proofs.Ytmhkcbdkimnakaa
