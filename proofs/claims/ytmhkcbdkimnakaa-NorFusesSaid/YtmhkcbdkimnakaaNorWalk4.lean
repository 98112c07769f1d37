/- The walk of layer nor's statement NorFuses. -/
import Derived.Test.YtmhkcbdkimnakaaNor5
import Derived.Test.YtmhkcbdkimnakaaNorLawMath
import Derived.Test.YtmhkcbdkimnakaaLaw
import Derived.OpenShut
namespace Go.Proofs.Ytmhkcbdkimnakaa
open Go.RowKit Bm

theorem fuse_new (w : World) : Calls Try.prog 12 #[.int .i64 2, .int .i64 10] w (MadeChip w (mNew 2 10)) := new_yes 2 10 w (by omega) (by omega) (by omega) (by omega)
theorem fuse_lay (h : Hd) (stop : Nat) (w : World) (hc : ChipAt w h (mNew 2 10)) : Calls Try.prog 21 #[.pointer (some ⟨h.p, 0, none⟩), .int .i64 stop, .int .u32 0] w fun e w' => e = .returned (.tuple #[]) ∧ ChipAt w' h (fuse0 stop) ∧ Turned h.own w w' :=
  fuse_any h _ stop 0#32 w hc (by show 1 ≤ 2; omega)
theorem fuse_a (h : Hd) (stop i a : Nat) (c : ChipM) (v : BitVec 32) (w : World) (hc : ChipAt w h c) (hs : FuseSt stop i c) (hi : i + 1 < stop) (ha : a < 128) :
    Calls Try.prog 23 #[.pointer (some ⟨h.p, 0, none⟩), .int .i64 a, .int .u32 (U v)] w fun e w' => e = .returned (.int .i64 0) ∧ ∃ c', ChipAt w' h c' ∧ c'.up = true ∧ FuseSt stop (i + 1) c' ∧ Turned h.own w w' := by
  obtain ⟨e1, e2, e3⟩ := fuse_ahead hs hi a ha v
  refine (program_any h c 2 a v w hc hs.1).mono fun e w' ⟨he, hc', ht⟩ => ?_
  rw [e1] at he
  exact ⟨he, _, hc', e2, e3, ht⟩
theorem fuse_b (h : Hd) (stop i a : Nat) (c : ChipM) (v : BitVec 32) (w : World) (hc : ChipAt w h c) (hs : FuseSt stop i c) (hi : stop ≤ i + 1) (ha : a < 128) :
    Calls Try.prog 23 #[.pointer (some ⟨h.p, 0, none⟩), .int .i64 a, .int .u32 (U v)] w fun e w' => e = .returned (.int .i64 4) ∧ ∃ c', ChipAt w' h c' ∧ c'.up = false ∧ FuseSt stop (i + 1) c' ∧ Turned h.own w w' := by
  obtain ⟨e1, e2, e3⟩ := fuse_burns hs hi a ha v
  refine (program_any h c 2 a v w hc hs.1).mono fun e w' ⟨he, hc', ht⟩ => ?_
  rw [e1] at he
  exact ⟨he, _, hc', e2, e3, ht⟩

set_option maxHeartbeats 2000000 in
theorem norFuses_walk (a0 : Int) (b0 : (Lit.int .u8 a0).wf = true) (a1 : Int) (b1 : (Lit.int .u8 a1).wf = true) (A : Option Addr) (n cap : Nat) (xs : List (BitVec 32)) (w : World) (hr : ReadsU w A n cap xs) :
    Calls Try.prog 10 #[.int .u8 a0, .int .u8 a1, .slice A n cap] w fun e w' => e = .returned (.bool true) ∧ Below w.heap.size w w' := by
  have c0 := bounds_u8 b0
  have c1 := bounds_u8 b1
  have hle := hr.le
  have hmx := hr.max
  unfold maxLen at hmx
  by_cases hn : 60 < n
  · go_enter Try.func10, Try.ntmps10
    go_wp2_with fail
    refine (alive_any w).mono ?_
    rintro e wa ⟨rfl, hBa⟩
    go_wp2
    go_ret
    exact ⟨rfl, hBa⟩
  · obtain ⟨s, hs⟩ : ∃ s : Nat, 1 + a0 % 20 = (s : Int) := ⟨(1 + a0 % 20).toNat, by omega⟩
    obtain ⟨k, hk⟩ : ∃ k : Nat, a1 % 128 = (k : Int) := ⟨(a1 % 128).toNat, by omega⟩
    have k1 : k < 128 := by omega
    have s1 : 1 ≤ s := by omega
    have s2 : s ≤ 20 := by omega
    clear b0 b1
    go_enter Try.func10, Try.ntmps10
    go_wp2_with fail
    refine (alive_any w).mono ?_
    rintro e wa ⟨rfl, hBa⟩
    go_wp2_with fail
    refine (fuse_new wa).mono ?_
    rintro e wn ⟨h, rfl, hc, ho, hB⟩
    have hB1 : Below w.heap.size w wn := hBa.trans (hB.mono hBa.size)
    have ho1 : ∀ i, h.own i → w.heap.size ≤ i := fun i hi => Nat.le_trans hBa.size (ho i hi)
    clear hBa hB ho
    go_wp2_with fail
    refine (fuse_lay h s _ hc).mono ?_
    rintro e w1 ⟨rfl, hc1, ht1⟩
    have hB2 := hB1.trans (ht1.below ho1 hB1.size)
    have hf := fuse_starts s s1 s2
    clear hs hB1 ht1 hc c0
    go_wp2
    go_loopw [29] (fun i wr => ∃ j : Nat, ∃ c, j ≤ n ∧ i = .int .i64 j ∧ ChipAt wr h c ∧ FuseSt s j c ∧ Below w.heap.size w wr) (fun i _ => n - (intOf i).toNat)
    case atStart => exact ⟨0, _, by omega, rfl, hc1, hf, hB2⟩
    case round =>
      clear hc1 hB2 hf
      obtain ⟨j, c, hj, rfl, hc, hf, hB⟩ := hrel
      by_cases hlt : j < n
      · obtain ⟨ad, rfl, hcell⟩ := (hr.kept hB).at_ hlt
        by_cases hst : j + 1 < s
        · go_wp2_with fail
          refine (fuse_a h s j k c (wd xs j) _ hc hf hst k1).mono ?_
          rintro e w2 ⟨rfl, c', hc2, hu, hf2, ht2⟩
          have hB2 := hB.trans (ht2.below ho1 hB.size)
          have up := up_any h c' w2 hc2
          rw [hu] at up
          have UP := Lib.hid up
          clear ht2 hcell hc hf hu up
          have t1 : ((j : Int) + 1 < (s : Int)) := by omega
          have t2 : decide ((s : Int) ≤ (j : Int) + 1) = false := by rw [decide_eq_false_iff_not]; omega
          go_wp2_with fail
          refine (UP.out).mono ?_
          rintro e w2' ⟨rfl, rfl⟩
          go_wp2
          go_roundw
          case rel => exact ⟨j + 1, c', by omega, by go_num, hc2, hf2, hB2⟩
          case measure => simp [intOf]; omega
        · have t1 : decide ((j : Int) + 1 < (s : Int)) = false := by rw [decide_eq_false_iff_not]; omega
          have t2 : decide ((s : Int) ≤ (j : Int) + 1) = true := by rw [decide_eq_true_iff]; omega
          have t3 : ¬ ((j : Int) + 1 < (s : Int)) := by omega
          have t4 : ((s : Int) ≤ (j : Int) + 1) := by omega
          go_wp2_with fail
          refine (fuse_b h s j k c (wd xs j) _ hc hf (by omega) k1).mono ?_
          rintro e w2 ⟨rfl, c', hc2, hu, hf2, ht2⟩
          have hB2 := hB.trans (ht2.below ho1 hB.size)
          have up := up_any h c' w2 hc2
          rw [hu] at up
          have UP := Lib.hid up
          clear ht2 hcell hc hf hu up
          go_wp2_with fail
          refine (UP.out).mono ?_
          rintro e w2' ⟨rfl, rfl⟩
          go_wp2
          go_roundw
          case rel => exact ⟨j + 1, c', by omega, by go_num, hc2, hf2, hB2⟩
          case measure => simp [intOf]; omega
      · obtain rfl : j = n := by omega
        go_wp2
        go_ret
        exact ⟨rfl, hB⟩
end Go.Proofs.Ytmhkcbdkimnakaa
