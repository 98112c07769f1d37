/- The walk of layer nor's statement NorMeets. -/
import Derived.Test.YtmhkcbdkimnakaaNor5
import Derived.Test.YtmhkcbdkimnakaaNorLawMath
import Derived.Test.YtmhkcbdkimnakaaLaw
import Derived.OpenShut
namespace Go.Proofs.Ytmhkcbdkimnakaa
open Go.RowKit Bm

theorem meet_new (k : Nat) (w : World) : Calls Try.prog 12 #[.int .i64 2, .int .i64 0] w (MadeChip w (meetAt k ones)) := by
  have := new_yes 2 0 w (by omega) (by omega) (by omega) (by omega)
  rw [meetAt_ones k] at this
  exact this
theorem meet_program (h : Hd) (k : Nat) (m v : BitVec 32) (w : World) (hc : ChipAt w h (meetAt k m)) (hk : k < 128) : Calls Try.prog 23 #[.pointer (some ⟨h.p, 0, none⟩), .int .i64 k, .int .u32 (U v)] w fun e w' => e = .returned (.int .i64 0) ∧ ChipAt w' h (meetAt k (m &&& v)) ∧ Turned h.own w w' := by
  have := program_any h _ 2 k v w hc (meetAt_ok k m)
  rw [meetAt_program k m v hk] at this
  exact this
theorem meet_read (h : Hd) (k : Nat) (m : BitVec 32) (w : World) (hc : ChipAt w h (meetAt k m)) (hk : k < 128) : Calls Try.prog 24 #[.pointer (some ⟨h.p, 0, none⟩), .int .i64 k] w fun e w' => e = .returned (.tuple #[.int .u32 (U m), .int .i64 0]) ∧ w' = w := by
  have := read_any h _ 2 k w hc (meetAt_ok k m)
  rw [meetAt_read k m hk] at this
  exact this

set_option maxHeartbeats 2000000 in
theorem norMeets_walk (a0 : Int) (b0 : (Lit.int .u8 a0).wf = true) (A : Option Addr) (n cap : Nat) (xs : List (BitVec 32)) (w : World) (hr : ReadsU w A n cap xs) :
    Calls Try.prog 9 #[.int .u8 a0, .slice A n cap] w fun e w' => e = .returned (.bool true) ∧ Below w.heap.size w w' := by
  have c0 := bounds_u8 b0
  have hle := hr.le
  have hmx := hr.max
  unfold maxLen at hmx
  by_cases hn : 60 < n
  · go_enter Try.func9, Try.ntmps9
    go_wp2_with fail
    refine (alive_any w).mono ?_
    rintro e wa ⟨rfl, hBa⟩
    go_wp2
    go_ret
    exact ⟨rfl, hBa⟩
  · obtain ⟨k, hk⟩ : ∃ k : Nat, a0 % 128 = (k : Int) := ⟨(a0 % 128).toNat, by omega⟩
    have k1 : k < 128 := by omega
    clear b0
    go_enter Try.func9, Try.ntmps9
    go_wp2_with fail
    refine (alive_any w).mono ?_
    rintro e wa ⟨rfl, hBa⟩
    go_wp2_with fail
    refine (meet_new k wa).mono ?_
    rintro e wn ⟨h, rfl, hc, ho, hB⟩
    have hB1 : Below w.heap.size w wn := hBa.trans (hB.mono hBa.size)
    have ho1 : ∀ i, h.own i → w.heap.size ≤ i := fun i hi => Nat.le_trans hBa.size (ho i hi)
    clear hBa hB ho
    go_wp2
    simp only [hk]
    clear hk c0
    go_loopw [25, 7] (fun i m wr => ∃ j : Nat, j ≤ n ∧ i = .int .i64 j ∧ m = .int .u32 (U (meet xs j)) ∧ ChipAt wr h (meetAt k (meet xs j)) ∧ Below w.heap.size w wr) (fun i _ _ => n - (intOf i).toNat)
    case atStart => exact ⟨0, by omega, rfl, by rw [meet_zero]; rfl, by rw [meet_zero]; exact hc, hB1⟩
    case round =>
      clear hc hB1
      obtain ⟨j, hj, rfl, rfl, hc, hB⟩ := hrel
      by_cases hlt : j < n
      · obtain ⟨ad, rfl, hcell⟩ := (hr.kept hB).at_ hlt
        have E := Lib.hid (meet_succ xs j (by rw [hr.len]; exact hlt))
        go_wp2_with fail
        refine (meet_program h k _ (wd xs j) _ hc k1).mono ?_
        rintro e w2 ⟨rfl, hc2, ht2⟩
        have hB2 := hB.trans (ht2.below ho1 hB.size)
        rw [← E.out] at hc2
        clear ht2 hcell
        go_wp2
        go_roundw
        case rel => exact ⟨j + 1, by omega, by go_num, by rw [E.out], hc2, hB2⟩
        case measure => simp [intOf]; omega
      · obtain rfl : j = n := by omega
        go_wp2_with fail
        refine (meet_read h k _ _ hc k1).mono ?_
        rintro e w2 ⟨rfl, rfl⟩
        go_wp2
        go_ret
        exact ⟨rfl, hB⟩
end Go.Proofs.Ytmhkcbdkimnakaa
