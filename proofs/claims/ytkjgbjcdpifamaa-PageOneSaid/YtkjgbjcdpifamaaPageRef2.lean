/- Contracts of the document's own answers for layer page: two rows of words compared; free; heads; places. -/
import Derived.Test.YtkjgbjcdpifamaaPageRef
import Derived.BigRegion
namespace Go.Proofs.Ytkjgbjcdpifamaa
open Go.RowKit Bm

theorem ext_wd {xs ys : List (BitVec 32)} (hl : xs.length = ys.length) (h : ∀ i, i < xs.length → wd xs i = wd ys i) : xs = ys := by
  apply List.ext_getElem hl
  intro i h1 h2
  have := h i h1
  unfold wd at this
  rw [List.getD_eq_getElem?_getD, List.getD_eq_getElem?_getD, List.getElem?_eq_getElem h1, List.getElem?_eq_getElem h2] at this
  exact this
theorem freeB_yes {xs : List (BitVec 32)} (h : ∀ i, i < xs.length → wd xs i = 4294967295#32) : freeB xs = true := by
  unfold freeB
  rw [List.all_eq_true]
  intro x hx
  obtain ⟨i, hi, rfl⟩ := List.getElem_of_mem hx
  have := h i hi
  unfold wd at this
  rw [List.getD_eq_getElem?_getD, List.getElem?_eq_getElem hi] at this
  simpa using this
theorem freeB_no {xs : List (BitVec 32)} {i : Nat} (hi : i < xs.length) (h : wd xs i ≠ 4294967295#32) : freeB xs = false := by
  unfold freeB
  rw [List.all_eq_false]
  refine ⟨xs[i], List.getElem_mem hi, ?_⟩
  unfold wd at h
  rw [List.getD_eq_getElem?_getD, List.getElem?_eq_getElem hi] at h
  simpa using h

set_option maxRecDepth 100000 in
set_option maxHeartbeats 800000 in
/-- The document's comparison of two rows of words: are they the same? -/
theorem words_eq_any (A B : Option Addr) (n m c d : Nat) (xs ys : List (BitVec 32)) (w : World) (hA : ReadsU w A n c xs) (hB : ReadsU w B m d ys) (hn : n ≤ 1000000) (hm : m ≤ 1000000) :
    Calls Try.prog 14 #[.slice A n c, .slice B m d] w fun e w' => e = .returned (.bool (decide (xs = ys))) ∧ ∃ k, w' = w.drewN k := by
  have hAl := hA.le
  have hBl := hB.le
  by_cases hnm : n = m
  · subst hnm
    go_enter Try.func14, Try.ntmps14
    go_wp2
    go_loopw [5] (fun i wr => ∃ j k : Nat, j ≤ n ∧ i = .int .i64 j ∧ wr = w.drewN k ∧ ∀ i, i < j → wd xs i = wd ys i) (fun i _ => n - (intOf i).toNat)
    case atStart => exact ⟨0, 0, by omega, rfl, rfl, fun i h => absurd h (by omega)⟩
    case round =>
      obtain ⟨j, k, hj, rfl, rfl, hs⟩ := hrel
      have HS := Lib.hid hs
      clear hs
      by_cases hlt : j < n
      · obtain ⟨a, rfl, ha⟩ := hA.at_ hlt
        obtain ⟨b, rfl, hb⟩ := hB.at_ hlt
        have i0 : (0 : Int) ≤ (j : Int) := by omega
        have i1 : (j : Int) < (n : Int) := by omega
        by_cases hv : wd xs j = wd ys j
        · have HV := Lib.hid hv
          rw [hv] at ha
          clear hv
          go_wp2
          go_quiet (fail)
          go_wp2
          go_roundw
          case rel => exact ⟨j + 1, _, by omega, by go_num, rfl, fun i hi => by
            by_cases e : i = j
            · rw [e]; exact HV.out
            · exact HS.out i (by omega)⟩
          case measure => simp [intOf]; omega
        · have hne : xs ≠ ys := fun e => hv (by rw [e])
          have hu : (U (wd xs j) == U (wd ys j)) = false := by rw [U_beq, beq_eq_false_iff_ne]; exact hv
          have hu' : ¬ U (wd xs j) = U (wd ys j) := by rw [U_eq_iff]; exact hv
          have HN := Lib.hid hne
          clear hne hv
          go_wp2
          go_quiet (fail)
          go_wp2
          go_ret
          rw [decide_eq_false HN.out]
          exact ⟨rfl, _, World.drewN_drewN _ _ _⟩
      · obtain rfl : j = n := by omega
        go_wp2
        go_ret
        rw [decide_eq_true (ext_wd (by rw [hA.len, hB.len]) (fun i hi => HS.out i (by rw [← hA.len]; exact hi)))]
        exact ⟨rfl, k, rfl⟩
  · have hne : xs ≠ ys := fun e => hnm (by rw [← hA.len, ← hB.len, e])
    have HN := Lib.hid hne
    have hnm' : ¬ (n : Int) = (m : Int) := by omega
    clear hne
    go_enter Try.func14, Try.ntmps14
    go_wp2
    go_ret
    rw [decide_eq_false HN.out]
    exact ⟨rfl, 0, rfl⟩

set_option maxRecDepth 100000 in
theorem rfree_any (A : Option Addr) (n c : Nat) (xs : List (BitVec 32)) (w : World) (hA : ReadsU w A n c xs) (hn : n ≤ 1000000) :
    Calls Try.prog 26 #[.slice A n c] w fun e w' => e = .returned (.bool (freeB xs)) ∧ w' = w := by
  have hAl := hA.le
  go_enter Try.func26, Try.ntmps26
  go_wp2
  go_loop [3] (fun i => ∃ j : Nat, j ≤ n ∧ i = .int .i64 j ∧ ∀ i, i < j → wd xs i = 4294967295#32) (fun i => n - (intOf i).toNat)
  case atStart => exact ⟨0, by omega, rfl, fun i h => absurd h (by omega)⟩
  case round =>
    obtain ⟨j, hj, rfl, hs⟩ := hrel
    have HS := Lib.hid hs
    clear hs
    by_cases hlt : j < n
    · obtain ⟨a, rfl, ha⟩ := hA.at_ hlt
      have i0 : (0 : Int) ≤ (j : Int) := by omega
      have i1 : (j : Int) < (n : Int) := by omega
      by_cases hv : wd xs j = 4294967295#32
      · have HV := Lib.hid hv
        rw [hv] at ha
        clear hv
        go_wp2
        go_round
        case rel => exact ⟨j + 1, by omega, by go_num, fun i hi => by
          by_cases e : i = j
          · rw [e]; exact HV.out
          · exact HS.out i (by omega)⟩
        case measure => simp [intOf]; omega
      · have e := Lib.hid (freeB_no (by rw [hA.len]; exact hlt) hv)
        have hu : ¬ U (wd xs j) = 4294967295 := by rw [show (4294967295 : Int) = U 4294967295#32 from rfl, U_eq_iff]; exact hv
        clear hv
        go_wp2
        go_ret
        rw [e.out]
        exact ⟨rfl, rfl⟩
    · obtain rfl : j = n := by omega
      go_wp2
      go_ret
      rw [freeB_yes (fun i hi => HS.out i (by rw [← hA.len]; exact hi))]
      exact ⟨rfl, rfl⟩

set_option maxRecDepth 100000 in
theorem rheader_any (x : BitVec 32) (w : World) : Calls Try.prog 20 #[.int .u32 (U x)] w (OutW w (hdWs x)) := by
  have x0 := U_nonneg x
  by_cases h : U x ≤ 2147483648
  · rw [hdWs_yes h]
    have e : 4294967295 - U x = U (~~~x) := by
      unfold U
      rw [BitVec.toNat_not]
      have := x.isLt
      omega
    have E := Lib.hid e
    clear e
    go_enter Try.func20, Try.ntmps20
    go_wp2
    go_ret
    refine outW_new (xs := [2970353665#32, x, ~~~x, 1526644958#32]) rfl ?_ (by unfold maxLen; simp) (Nat.le_refl _) ((Below.refl _ w).alloc (Nat.le_refl _) _)
    simp only [Us, List.map, ← E.out]
    exact At.news _ _ _
  · rw [hdWs_no h]
    go_enter Try.func20, Try.ntmps20
    go_wp2
    go_ret
    exact outW_nil (Below.refl _ w)

set_option maxRecDepth 100000 in
theorem rat_any (b k : Int) (w : World) (b0 : -9223372036854775808 ≤ b) (b1 : b ≤ 9223372036854775807) (k0 : -9223372036854775808 ≤ k) (k1 : k ≤ 9223372036854775807) :
    Calls Try.prog 22 #[.int .i64 b, .int .i64 k] w fun e w' => e = .returned (.int .i64 (pgAt b k)) ∧ w' = w := by
  by_cases h : 0 ≤ b ∧ b ≤ 63 ∧ 0 ≤ k ∧ k ≤ 7
  · have e : pgAt b k = b * 64 + 4 + k * 7 := by unfold pgAt; rw [if_pos h]
    rw [e]
    clear e
    obtain ⟨h1, h2, h3, h4⟩ := h
    go_enter Try.func22, Try.ntmps22
    go_wp2
    go_ret
    exact ⟨rfl, rfl⟩
  · have e : pgAt b k = -1 := by unfold pgAt; rw [if_neg h]
    rw [e]
    clear e
    go_enter Try.func22, Try.ntmps22
    go_wp2
    all_goals first
      | (exfalso; omega)
      | (go_ret; exact ⟨rfl, rfl⟩)
end Go.Proofs.Ytkjgbjcdpifamaa
