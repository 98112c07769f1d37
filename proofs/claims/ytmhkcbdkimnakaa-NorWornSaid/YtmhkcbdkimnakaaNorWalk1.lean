/- The walk of layer nor's statement NorWorn. -/
import Derived.Test.YtmhkcbdkimnakaaNor5
import Derived.Test.YtmhkcbdkimnakaaNorLawMath
import Derived.Test.YtmhkcbdkimnakaaLaw
import Derived.OpenShut
namespace Go.Proofs.Ytmhkcbdkimnakaa
open Go.RowKit Bm

theorem worn_new (k : Nat) (w : World) (hk : k ≤ 20) : Calls Try.prog 12 #[.int .i64 2, .int .i64 k] w (MadeChip w (wornAt k 0)) := new_yes 2 k w (by omega) (by omega) (by omega) (by omega)
theorem worn_erase (h : Hd) (k j : Nat) (w : World) (hc : ChipAt w h (wornAt k j)) (hj : j < k) (hk : k ≤ 20) : Calls Try.prog 20 #[.pointer (some ⟨h.p, 0, none⟩), .int .i64 1] w fun e w' => e = .returned (.int .i64 0) ∧ ChipAt w' h (wornAt k (j + 1)) ∧ Turned h.own w w' := by
  have := erase_any h _ 2 1 w hc (wornAt_ok k j (by omega) hk)
  rw [wornAt_erase k j (by omega)] at this
  exact this
theorem worn_program (h : Hd) (k : Nat) (v : BitVec 32) (w : World) (hc : ChipAt w h (wornAt k k)) (hk : k ≤ 20) : Calls Try.prog 23 #[.pointer (some ⟨h.p, 0, none⟩), .int .i64 70, .int .u32 (U v)] w fun e w' => e = .returned (.int .i64 0) ∧ ChipAt w' h (wornBy k k v) ∧ Turned h.own w w' := by
  have := program_any h _ 2 70 v w hc (wornAt_ok k k (by omega) hk)
  rw [wornAt_program] at this
  exact this
theorem worn_worn (h : Hd) (k : Nat) (v : BitVec 32) (w : World) (hc : ChipAt w h (wornBy k k v)) (hk : k ≤ 20) : Calls Try.prog 20 #[.pointer (some ⟨h.p, 0, none⟩), .int .i64 1] w fun e w' => e = .returned (.int .i64 5) ∧ ChipAt w' h (wornBy k k v) ∧ Turned h.own w w' := by
  have := erase_any h _ 2 1 w hc (wornBy_ok k k v (by omega) hk)
  rw [wornBy_worn] at this
  exact this
theorem worn_wear1 (h : Hd) (k : Nat) (v : BitVec 32) (w : World) (hc : ChipAt w h (wornBy k k v)) : Calls Try.prog 18 #[.pointer (some ⟨h.p, 0, none⟩), .int .i64 1] w fun e w' => e = .returned (.int .i64 k) ∧ w' = w :=
  wear_any h _ 1 w hc (by show 2 ≤ 64; omega)
theorem worn_wear0 (h : Hd) (k : Nat) (v : BitVec 32) (w : World) (hc : ChipAt w h (wornBy k k v)) : Calls Try.prog 18 #[.pointer (some ⟨h.p, 0, none⟩), .int .i64 0] w fun e w' => e = .returned (.int .i64 0) ∧ w' = w :=
  wear_any h _ 0 w hc (by show 2 ≤ 64; omega)
theorem worn_read (h : Hd) (k : Nat) (v : BitVec 32) (w : World) (hc : ChipAt w h (wornBy k k v)) (hk : k ≤ 20) : Calls Try.prog 24 #[.pointer (some ⟨h.p, 0, none⟩), .int .i64 70] w fun e w' => e = .returned (.tuple #[.int .u32 (U v), .int .i64 0]) ∧ w' = w := by
  have := read_any h _ 2 70 w hc (wornBy_ok k k v (by omega) hk)
  rw [wornBy_read] at this
  exact this
theorem worn_up (h : Hd) (k : Nat) (v : BitVec 32) (w : World) (hc : ChipAt w h (wornBy k k v)) : Calls Try.prog 15 #[.pointer (some ⟨h.p, 0, none⟩)] w fun e w' => e = .returned (.bool true) ∧ w' = w :=
  up_any h _ w hc

set_option maxHeartbeats 1000000 in
theorem norWorn_walk (a0 : Int) (b0 : (Lit.int .u8 a0).wf = true) (a1 : Int) (b1 : (Lit.int .u32 a1).wf = true) (w : World) :
    Calls Try.prog 6 #[.int .u8 a0, .int .u32 a1] w fun e w' => e = .returned (.bool true) ∧ Below w.heap.size w w' := by
  have c0 := bounds_u8 b0
  have c1 := bounds_u32 b1
  obtain ⟨v, rfl⟩ := U_of c1.1 (by omega)
  obtain ⟨k, hk⟩ : ∃ k : Nat, a0 % 20 = (k : Int) := ⟨(a0 % 20).toNat, by omega⟩
  have k1 : k ≤ 19 := by omega
  clear b0 b1 c1
  go_enter Try.func6, Try.ntmps6
  go_wp2_with fail
  refine (alive_any w).mono ?_
  rintro e wa ⟨rfl, hBa⟩
  go_wp2_with fail
  refine (worn_new k wa (by omega)).mono ?_
  rintro e wn ⟨h, rfl, hc, ho, hB⟩
  have hB1 : Below w.heap.size w wn := hBa.trans (hB.mono hBa.size)
  have ho1 : ∀ i, h.own i → w.heap.size ≤ i := fun i hi => Nat.le_trans hBa.size (ho i hi)
  clear hBa hB ho hk c0
  go_wp2
  go_loopw [19] (fun i wr => ∃ j : Nat, j ≤ k ∧ i = .int .i64 j ∧ ChipAt wr h (wornAt k j) ∧ Below w.heap.size w wr) (fun i _ => k - (intOf i).toNat)
  case atStart => exact ⟨0, by omega, rfl, hc, hB1⟩
  case round =>
    clear hc hB1
    obtain ⟨j, hj, rfl, hc, hB⟩ := hrel
    have step : ∀ {wx : World}, Turned h.own wr wx → Below w.heap.size w wx := fun t => hB.trans (t.below ho1 hB.size)
    by_cases hlt : j < k
    · go_wp2_with fail
      refine (worn_erase h k j _ hc hlt (by omega)).mono ?_
      rintro e w2 ⟨rfl, hc2, ht2⟩
      go_wp2
      go_roundw
      case rel => exact ⟨j + 1, by omega, by go_num, hc2, step ht2⟩
      case measure => simp [intOf]; omega
    · obtain rfl : j = k := by omega
      go_wp2_with fail
      refine (worn_program h j v _ hc (by omega)).mono ?_
      rintro e w2 ⟨rfl, hc2, ht2⟩
      go_wp2_with fail
      refine (worn_worn h j v _ hc2 (by omega)).mono ?_
      rintro e w3 ⟨rfl, hc3, ht3⟩
      have hB3 := step (ht2.trans ht3)
      clear ht2 ht3 step hB
      go_wp2_with fail
      refine (worn_wear1 h j v _ hc3).mono ?_
      rintro e w4 ⟨rfl, rfl⟩
      go_wp2_with fail
      refine (worn_wear0 h j v _ hc3).mono ?_
      rintro e w5 ⟨rfl, rfl⟩
      go_wp2_with fail
      refine (worn_read h j v _ hc3 (by omega)).mono ?_
      rintro e w6 ⟨rfl, rfl⟩
      go_wp2_with fail
      refine (worn_up h j v _ hc3).mono ?_
      rintro e w7 ⟨rfl, rfl⟩
      go_wp2
      go_ret
      exact ⟨rfl, hB3⟩
end Go.Proofs.Ytmhkcbdkimnakaa
