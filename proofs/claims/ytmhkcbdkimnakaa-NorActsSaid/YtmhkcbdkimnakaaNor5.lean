/- Each call of a chip, whatever it is given, in one contract; and the helper alive of layer nor's statements. -/
import Derived.Test.YtmhkcbdkimnakaaNor2
import Derived.Test.YtmhkcbdkimnakaaNor4
namespace Go.Proofs.Ytmhkcbdkimnakaa
open Go.RowKit Bm

theorem turned_drewN {S : Nat → Prop} (w : World) (n : Nat) : Turned S w (w.drewN n) := (Turned.refl S w).drewN n

theorem program_any (h : Hd) (c : ChipM) (k : Nat) (a : Int) (v : BitVec 32) (w : World) (hc : ChipAt w h c) (ok : ChipOk k c) :
    Calls Try.prog 23 #[.pointer (some ⟨h.p, 0, none⟩), .int .i64 a, .int .u32 (U v)] w fun e w' => e = .returned (.int .i64 (mProgram c a v).2) ∧ ChipAt w' h (mProgram c a v).1 ∧ Turned h.own w w' := by
  by_cases hr : mRefuse c a c.ws.length = 0
  · obtain ⟨_, h1, h2⟩ := refuse_zero hr
    obtain ⟨i, rfl⟩ := Int.eq_ofNat_of_zero_le h1
    refine (program_yes h c k i v w hc ok (by omega) hr).mono fun e w' ⟨he, hc', ht⟩ => ?_
    unfold mProgram
    rw [if_pos hr]
    exact ⟨he, hc', ht⟩
  · refine (program_no h c k a v w hc ok hr).mono fun e w' ⟨he, hw⟩ => ?_
    subst hw
    unfold mProgram
    rw [if_neg hr]
    exact ⟨he, hc, Turned.refl _ _⟩

theorem erase_any (h : Hd) (c : ChipM) (k : Nat) (b : Int) (w : World) (hc : ChipAt w h c) (ok : ChipOk k c) :
    Calls Try.prog 20 #[.pointer (some ⟨h.p, 0, none⟩), .int .i64 b] w fun e w' => e = .returned (.int .i64 (mErase c b).2) ∧ ChipAt w' h (mErase c b).1 ∧ Turned h.own w w' := by
  by_cases hr : mRefuse c b c.wear.length = 0
  · obtain ⟨_, h1, h2⟩ := refuse_zero hr
    obtain ⟨i, rfl⟩ := Int.eq_ofNat_of_zero_le h1
    unfold mErase
    rw [if_pos hr]
    by_cases hw : c.endure ≤ nm c.wear i
    · refine (erase_worn h c k i w hc ok (by omega) hr hw).mono fun e w' ⟨he, n, hw'⟩ => ?_
      subst hw'
      rw [if_pos (show c.endure ≤ nm c.wear (i : Int).toNat from hw)]
      exact ⟨he, hc.drewN n, turned_drewN w n⟩
    · refine (erase_yes h c k i w hc ok (by omega) hr (by omega)).mono fun e w' ⟨he, hc', ht⟩ => ?_
      rw [if_neg (show ¬ c.endure ≤ nm c.wear (i : Int).toNat from hw)]
      exact ⟨he, hc', ht⟩
  · refine (erase_no h c k b w hc ok hr).mono fun e w' ⟨he, hw⟩ => ?_
    subst hw
    unfold mErase
    rw [if_neg hr]
    exact ⟨he, hc, Turned.refl _ _⟩

theorem read_any (h : Hd) (c : ChipM) (k : Nat) (a : Int) (w : World) (hc : ChipAt w h c) (ok : ChipOk k c) :
    Calls Try.prog 24 #[.pointer (some ⟨h.p, 0, none⟩), .int .i64 a] w fun e w' => e = .returned (.tuple #[.int .u32 (U (mRead c a).1), .int .i64 (mRead c a).2]) ∧ w' = w := by
  by_cases hr : mRefuse c a c.ws.length = 0
  · obtain ⟨_, h1, h2⟩ := refuse_zero hr
    obtain ⟨i, rfl⟩ := Int.eq_ofNat_of_zero_le h1
    refine (read_yes h c k i w hc ok (by omega) hr).mono fun e w' ⟨he, hw⟩ => ?_
    unfold mRead
    rw [if_pos hr]
    exact ⟨he, hw⟩
  · refine (read_no h c k a w hc ok hr).mono fun e w' ⟨he, hw⟩ => ?_
    unfold mRead
    rw [if_neg hr]
    exact ⟨he, hw⟩

/-! The helper alive: a chip of two blocks that bear three erasures. -/
def al0 : ChipM := mNew 2 3
def al1 : ChipM := (mProgram al0 0 240#32).1
def al2 : ChipM := (mProgram al1 0 60#32).1
def al3 : ChipM := (mErase al2 0).1
theorem al0_ok : ChipOk 2 al0 := ChipOk.of _ 2 3 (by omega) (by omega) (by simp) (by omega) (by omega)
theorem al1_ok : ChipOk 2 al1 := al0_ok.program _ _
theorem al2_ok : ChipOk 2 al2 := al1_ok.program _ _
theorem al3_ok : ChipOk 2 al3 := al2_ok.erase _
theorem al1_e : (mProgram al0 0 240#32).2 = 0 := by decide +kernel
theorem al2_e : (mProgram al1 0 60#32).2 = 0 := by decide +kernel
theorem al2_r : mRead al2 0 = (48#32, 0) := by decide +kernel
theorem al3_e : (mErase al2 0).2 = 0 := by decide +kernel
theorem al3_r : mRead al3 0 = (4294967295#32, 0) := by decide +kernel
theorem al3_w : mWear al3 0 = 1 := by decide +kernel
theorem al3_l : al3.ws.length = 128 := by decide +kernel
theorem al3_k : al3.wear.length = 2 := by decide +kernel
theorem al3_u : al3.up = true := by decide +kernel

theorem al_new (w : World) : Calls Try.prog 12 #[.int .i64 2, .int .i64 3] w (MadeChip w al0) := new_yes 2 3 w (by omega) (by omega) (by omega) (by omega)
theorem al_p1 (h : Hd) (w : World) (hc : ChipAt w h al0) : Calls Try.prog 23 #[.pointer (some ⟨h.p, 0, none⟩), .int .i64 0, .int .u32 240] w fun e w' => e = .returned (.int .i64 0) ∧ ChipAt w' h al1 ∧ Turned h.own w w' := by
  have := program_any h al0 2 0 240#32 w hc al0_ok
  rw [al1_e] at this
  exact this
theorem al_p2 (h : Hd) (w : World) (hc : ChipAt w h al1) : Calls Try.prog 23 #[.pointer (some ⟨h.p, 0, none⟩), .int .i64 0, .int .u32 60] w fun e w' => e = .returned (.int .i64 0) ∧ ChipAt w' h al2 ∧ Turned h.own w w' := by
  have := program_any h al1 2 0 60#32 w hc al1_ok
  rw [al2_e] at this
  exact this
theorem al_r2 (h : Hd) (w : World) (hc : ChipAt w h al2) : Calls Try.prog 24 #[.pointer (some ⟨h.p, 0, none⟩), .int .i64 0] w fun e w' => e = .returned (.tuple #[.int .u32 48, .int .i64 0]) ∧ w' = w := by
  have := read_any h al2 2 0 w hc al2_ok
  rw [al2_r] at this
  exact this
theorem al_e3 (h : Hd) (w : World) (hc : ChipAt w h al2) : Calls Try.prog 20 #[.pointer (some ⟨h.p, 0, none⟩), .int .i64 0] w fun e w' => e = .returned (.int .i64 0) ∧ ChipAt w' h al3 ∧ Turned h.own w w' := by
  have := erase_any h al2 2 0 w hc al2_ok
  rw [al3_e] at this
  exact this
theorem al_r3 (h : Hd) (w : World) (hc : ChipAt w h al3) : Calls Try.prog 24 #[.pointer (some ⟨h.p, 0, none⟩), .int .i64 0] w fun e w' => e = .returned (.tuple #[.int .u32 4294967295, .int .i64 0]) ∧ w' = w := by
  have := read_any h al3 2 0 w hc al3_ok
  rw [al3_r] at this
  exact this
theorem al_w3 (h : Hd) (w : World) (hc : ChipAt w h al3) : Calls Try.prog 18 #[.pointer (some ⟨h.p, 0, none⟩), .int .i64 0] w fun e w' => e = .returned (.int .i64 1) ∧ w' = w := by
  have := wear_any h al3 0 w hc (by rw [al3_k]; omega)
  rw [al3_w] at this
  exact this
theorem al_l3 (h : Hd) (w : World) (hc : ChipAt w h al3) : Calls Try.prog 17 #[.pointer (some ⟨h.p, 0, none⟩)] w fun e w' => ∃ A cap, e = .returned (.slice A 128 cap) ∧ Below w.heap.size w w' := by
  refine (words_any h al3 w hc (by rw [al3_l]; omega) (by rw [al3_l]; omega)).mono ?_
  rintro e w' ⟨g, cap, rest, rfl, h1, h2, h3, h4, h5⟩
  exact ⟨_, _, by rw [Us_length, al3_l], h5⟩
theorem al_b3 (h : Hd) (w : World) (hc : ChipAt w h al3) : Calls Try.prog 19 #[.pointer (some ⟨h.p, 0, none⟩)] w fun e w' => e = .returned (.int .i64 2) ∧ w' = w := by
  have := blocks_any h al3 w hc
  rw [al3_k] at this
  exact this
theorem al_u3 (h : Hd) (w : World) (hc : ChipAt w h al3) : Calls Try.prog 15 #[.pointer (some ⟨h.p, 0, none⟩)] w fun e w' => e = .returned (.bool true) ∧ w' = w := by
  have := up_any h al3 w hc
  rw [al3_u] at this
  exact this

set_option maxHeartbeats 800000 in
theorem alive_any (w : World) : Calls Try.prog 11 #[] w fun e w' => e = .returned (.bool true) ∧ Below w.heap.size w w' := by
  go_enter Try.func11, Try.ntmps11
  go_wp2_with fail
  refine (al_new w).mono ?_
  rintro e w1 ⟨h, rfl, hc0, ho, hB⟩
  have hs := hB.size
  go_wp2_with fail
  refine (al_p1 h w1 hc0).mono ?_
  rintro e w2 ⟨rfl, hc1, ht1⟩
  go_wp2_with fail
  refine (al_p2 h w2 hc1).mono ?_
  rintro e w3 ⟨rfl, hc2, ht2⟩
  go_wp2_with fail
  refine (al_r2 h w3 hc2).mono ?_
  rintro e w' ⟨rfl, rfl⟩
  go_wp2_with fail
  refine (al_e3 h w' hc2).mono ?_
  rintro e w4 ⟨rfl, hc3, ht3⟩
  have t1 := (ht1.trans (ht2.trans ht3)).below (B := w.heap.size) ho hs
  have hb4 : Below w.heap.size w w4 := hB.trans t1
  clear ht1 ht2 ht3 t1 hB
  go_wp2_with fail
  refine (al_r3 h w4 hc3).mono ?_
  rintro e w5 ⟨rfl, rfl⟩
  go_wp2_with fail
  refine (al_w3 h w5 hc3).mono ?_
  rintro e w6 ⟨rfl, rfl⟩
  go_wp2_with fail
  refine (al_l3 h w6 hc3).mono ?_
  rintro e w7 ⟨A, cap, rfl, hb7⟩
  have hc7 : ChipAt w7 h al3 := hc3.kept (Turned.of_below hb7 (Nat.le_refl _) NoBlock) (fun _ _ h => h)
  have hb8 : Below w.heap.size w w7 := hb4.trans (hb7.mono hb4.size)
  clear hb4 hb7
  go_wp2_with fail
  refine (al_b3 h w7 hc7).mono ?_
  rintro e w8 ⟨rfl, rfl⟩
  go_wp2_with fail
  refine (al_u3 h w8 hc7).mono ?_
  rintro e w9 ⟨rfl, rfl⟩
  go_wp2
  go_ret
  exact ⟨rfl, hb8⟩
end Go.Proofs.Ytmhkcbdkimnakaa
