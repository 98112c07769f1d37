/- Contracts of the program's page: slices.Equal of words; isFree; Right; Header; At. -/
import Derived.Test.YtfpfcmgcfbkolaaPageRef4
import Derived.Test.YtfpfcmgcfbkolaaRep
import Derived.BigRegion
namespace Go.Proofs.Ytfpfcmgcfbkolaa
open Go.RowKit Bm

set_option maxRecDepth 100000 in
set_option maxHeartbeats 800000 in
/-- slices.Equal of words: are they the same? -/
theorem equal_any (A B : Option Addr) (n m c d : Nat) (xs ys : List (BitVec 32)) (w : World) (hA : ReadsU w A n c xs) (hB : ReadsU w B m d ys) (hn : n ≤ 1000000) (hm : m ≤ 1000000) :
    Calls Try.prog 51 #[.slice A n c, .slice B m d] w fun e w' => e = .returned (.bool (decide (xs = ys))) ∧ ∃ k, w' = w.drewN k := by
  have hAl := hA.le
  have hBl := hB.le
  by_cases hnm : n = m
  · subst hnm
    go_enter Try.func51, Try.ntmps51
    go_wp2
    go_loopw [13] (fun i wr => ∃ j k : Nat, j ≤ n ∧ i = .int .i64 j ∧ wr = w.drewN k ∧ ∀ i, i < j → wd xs i = wd ys i) (fun i _ => n - (intOf i).toNat)
    case atStart => exact ⟨0, 0, by omega, rfl, rfl, fun i h => absurd h (by omega)⟩
    case round =>
      obtain ⟨j, k, hj, rfl, rfl, hs⟩ := hrel
      have HS := Lib.hid hs
      clear hs
      by_cases hlt : j < n
      · obtain ⟨a, rfl, ha⟩ := hA.at_ hlt
        obtain ⟨b, rfl, hb⟩ := hB.at_ hlt
        have i0 : (0 : Int) ≤ (j : Int) := by omega
        have i1 : (j : Int) < (n : Int) := by omega
        by_cases hv : wd xs j = wd ys j
        · have HV := Lib.hid hv
          rw [hv] at ha
          clear hv
          go_wp2
          go_quiet (fail)
          go_wp2
          go_roundw
          case rel => exact ⟨j + 1, _, by omega, by go_num, rfl, fun i hi => by
            by_cases e : i = j
            · rw [e]; exact HV.out
            · exact HS.out i (by omega)⟩
          case measure => simp [intOf]; omega
        · have hne : xs ≠ ys := fun e => hv (by rw [e])
          have hu : (U (wd xs j) == U (wd ys j)) = false := by rw [U_beq, beq_eq_false_iff_ne]; exact hv
          have hu' : ¬ U (wd xs j) = U (wd ys j) := by rw [U_eq_iff]; exact hv
          have HN := Lib.hid hne
          clear hne hv
          go_wp2
          go_quiet (fail)
          go_wp2
          go_ret
          rw [decide_eq_false HN.out]
          exact ⟨rfl, _, World.drewN_drewN _ _ _⟩
      · obtain rfl : j = n := by omega
        go_wp2
        go_ret
        rw [decide_eq_true (ext_wd (by rw [hA.len, hB.len]) (fun i hi => HS.out i (by rw [← hA.len]; exact hi)))]
        exact ⟨rfl, k, rfl⟩
  · have hne : xs ≠ ys := fun e => hnm (by rw [← hA.len, ← hB.len, e])
    have HN := Lib.hid hne
    have hnm' : ¬ (n : Int) = (m : Int) := by omega
    clear hne
    go_enter Try.func51, Try.ntmps51
    go_wp2
    go_ret
    rw [decide_eq_false HN.out]
    exact ⟨rfl, 0, rfl⟩


theorem freeB_iff {xs : List (BitVec 32)} {n : Nat} (h : xs.length = n) : decide (xs = List.replicate n 4294967295#32) = freeB xs := by
  subst h
  rw [Bool.eq_iff_iff, decide_eq_true_eq]
  unfold freeB
  rw [List.all_eq_true, List.eq_replicate_iff]
  simp

theorem Us_replicate (k : Nat) (x : BitVec 32) : Us (List.replicate k x) = List.replicate k (.int .u32 (U x)) := by simp [Us]

set_option maxRecDepth 100000 in
theorem pfree_any (A : Option Addr) (n c k : Nat) (xs : List (BitVec 32)) (w : World) (hA : ReadsU w A n c xs) (hn : n ≤ 1000000) (k1 : 1 ≤ k) (k2 : k ≤ 1000000) :
    Calls Try.prog 50 #[.slice A n c, .int .i64 k] w fun e w' => e = .returned (.bool (decide (xs = List.replicate k 4294967295#32))) ∧ Below w.heap.size w w' := by
  have HA := Lib.hid hA
  clear hA
  have RP := Lib.hid (repeat_any ⟨w.heap.size, 0, none⟩ 1 k 4294967295#32 (w.alloc (.cells #[.int .u32 4294967295] 34)) k1 k2 (by simp) ((At.news w 34 [.int .u32 4294967295]).cell 0))
  go_enter Try.func50, Try.ntmps50
  go_wp2_with (first
    | (go_at_call 58; go_loud ((refine RP.out.mono ?_); rintro e w1 ⟨g, cap, rest, rfl, hG, hcap, hmx, hge, hb⟩; have HB := Lib.hid (((Below.refl _ w).alloc (Nat.le_refl _) _).trans (hb.mono (by simp))); (rw [← Us_replicate] at hG hcap); have HR := Lib.hid (ReadsU.of_at (xs := List.replicate k 4294967295#32) hG hcap hmx); (rw [List.length_replicate] at HR ⊢); clear hb hG hcap))
    | (go_at_call 51; (refine (equal_any _ _ _ _ _ _ xs (List.replicate k 4294967295#32) _ (HA.out.kept HB.out) HR.out hn k2).mono ?_); rintro e w2 ⟨rfl, m, rfl⟩))
  go_ret
  exact ⟨rfl, HB.out.trans (below_drewN' _ _ _)⟩

set_option maxRecDepth 100000 in
theorem pright_any (p : PageM) (w : World) : Calls Try.prog 59 #[pgV p] w fun e w' => e = .returned (.bool (pgOk p)) ∧ Below w.heap.size w w' := by
  obtain ⟨s, q, g, d0, d1, d2, d3⟩ := p
  have s0 := U_nonneg s
  have q0 := U_nonneg q
  have B0 : ∀ o, Below w.heap.size w (w.alloc o) := fun o => (Below.refl _ w).alloc (Nat.le_refl _) o
  by_cases h1 : U s < 512
  · by_cases h2 : 1 ≤ U q
    · by_cases h3 : U q ≤ 2147483648
      · cases g
        · unfold pgV pgC
          go_enter Try.func59, Try.ntmps59
          go_wp2
          go_ret
          exact ⟨by simp [pgOk, h1, h2, h3], B0 _⟩
        · unfold pgV pgC
          go_enter Try.func59, Try.ntmps59
          go_wp2
          go_ret
          have e : pgOk ⟨s, q, true, d0, d1, d2, d3⟩ = (U d0 == 0 && (U d1 == 0 && (U d2 == 0 && U d3 == 0))) := by
            simp only [U0, pgOk, pgData0, h1, h2, h3, decide_true, Bool.true_and, Bool.not_true, Bool.false_or]
          rw [e]
          exact ⟨rfl, B0 _⟩
      · unfold pgV pgC
        go_enter Try.func59, Try.ntmps59
        go_wp2
        go_ret
        rw [show pgOk ⟨s, q, g, d0, d1, d2, d3⟩ = false by simp only [pgOk, Bool.and_eq_false_iff, decide_eq_false_iff_not]; omega]
        exact ⟨rfl, B0 _⟩
    · unfold pgV pgC
      go_enter Try.func59, Try.ntmps59
      go_wp2
      go_ret
      rw [show pgOk ⟨s, q, g, d0, d1, d2, d3⟩ = false by simp only [pgOk, Bool.and_eq_false_iff, decide_eq_false_iff_not]; omega]
      exact ⟨rfl, B0 _⟩
  · unfold pgV pgC
    go_enter Try.func59, Try.ntmps59
    go_wp2
    go_ret
    rw [show pgOk ⟨s, q, g, d0, d1, d2, d3⟩ = false by simp only [pgOk, Bool.and_eq_false_iff, decide_eq_false_iff_not]; omega]
    exact ⟨rfl, B0 _⟩

set_option maxRecDepth 100000 in
theorem pheader_any (x : BitVec 32) (w : World) : Calls Try.prog 52 #[.int .u32 (U x)] w (OutW w (hdWs x)) := by
  have x0 := U_nonneg x
  by_cases h : U x ≤ 2147483648
  · rw [hdWs_yes h]
    have e : 4294967295 - U x = U (~~~x) := by
      unfold U
      rw [BitVec.toNat_not]
      have := x.isLt
      omega
    have E := Lib.hid e
    clear e
    go_enter Try.func52, Try.ntmps52
    go_wp2
    go_ret
    refine outW_new (xs := [2970353665#32, x, ~~~x, 1526644958#32]) rfl ?_ (by unfold maxLen; simp) (Nat.le_refl _) ((Below.refl _ w).alloc (Nat.le_refl _) _)
    simp only [Us, List.map, ← E.out]
    exact At.news _ _ _
  · rw [hdWs_no h]
    go_enter Try.func52, Try.ntmps52
    go_wp2
    go_ret
    exact outW_nil (Below.refl _ w)

set_option maxRecDepth 100000 in
theorem pat_any (b k : Int) (w : World) (b0 : -9223372036854775808 ≤ b) (b1 : b ≤ 9223372036854775807) (k0 : -9223372036854775808 ≤ k) (k1 : k ≤ 9223372036854775807) :
    Calls Try.prog 54 #[.int .i64 b, .int .i64 k] w fun e w' => e = .returned (.int .i64 (pgAt b k)) ∧ w' = w := by
  by_cases h : 0 ≤ b ∧ b ≤ 63 ∧ 0 ≤ k ∧ k ≤ 7
  · have e : pgAt b k = b * 64 + 4 + k * 7 := by unfold pgAt; rw [if_pos h]
    rw [e]
    clear e
    obtain ⟨h1, h2, h3, h4⟩ := h
    go_enter Try.func54, Try.ntmps54
    go_wp2
    go_ret
    exact ⟨rfl, rfl⟩
  · have e : pgAt b k = -1 := by unfold pgAt; rw [if_neg h]
    rw [e]
    clear e
    go_enter Try.func54, Try.ntmps54
    go_wp2
    all_goals first
      | (exfalso; omega)
      | (go_ret; exact ⟨rfl, rfl⟩)
end Go.Proofs.Ytfpfcmgcfbkolaa
