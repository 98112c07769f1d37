/- Two rows of words compared, by the document's helper. -/
import Derived.Test.YtnfgpjfldgocaaaGreatLaw
import Derived.Test.YtnfgpjfldgocaaaGreatNorLawM
import Derived.Laws.Rows
import Derived.BigRegion
import Derived.Deep.QuietTactic
import Derived.BigQuiet
import Derived.Lib.Hide
namespace Go.Proofs.YtnfgpjfldgocaaaGreat
open Go.RowKit Bm

theorem ext_wd {xs ys : List (BitVec 32)} (hl : xs.length = ys.length) (h : ∀ i, i < xs.length → wd xs i = wd ys i) : xs = ys := by
  apply List.ext_getElem hl
  intro i h1 h2
  have := h i h1
  unfold wd at this
  rw [List.getD_eq_getElem?_getD, List.getD_eq_getElem?_getD, List.getElem?_eq_getElem h1, List.getElem?_eq_getElem h2] at this
  exact this
set_option maxRecDepth 100000 in
set_option maxHeartbeats 800000 in
/-- The document's comparison of two rows of words: are they the same? -/
theorem words_eq_any (A B : Option Addr) (n m c d : Nat) (xs ys : List (BitVec 32)) (w : World) (hA : ReadsU w A n c xs) (hB : ReadsU w B m d ys) (hn : n ≤ 1000000) (hm : m ≤ 1000000) :
    Calls Tryz.prog 89 #[.slice A n c, .slice B m d] w fun e w' => e = .returned (.bool (decide (xs = ys))) ∧ ∃ k, w' = w.drewN k := by
  have hAl := hA.le
  have hBl := hB.le
  by_cases hnm : n = m
  · subst hnm
    go_enter Tryz.func89, Tryz.ntmps89
    go_wp2
    go_loopw [5] (fun i wr => ∃ j k : Nat, j ≤ n ∧ i = .int .i64 j ∧ wr = w.drewN k ∧ ∀ i, i < j → wd xs i = wd ys i) (fun i _ => n - (intOf i).toNat)
    case atStart => exact ⟨0, 0, by omega, rfl, rfl, fun i h => absurd h (by omega)⟩
    case round =>
      obtain ⟨j, k, hj, rfl, rfl, hs⟩ := hrel
      have HS := Lib.hid hs
      clear hs
      by_cases hlt : j < n
      · obtain ⟨a, rfl, ha⟩ := hA.at_ hlt
        obtain ⟨b, rfl, hb⟩ := hB.at_ hlt
        have i0 : (0 : Int) ≤ (j : Int) := by omega
        have i1 : (j : Int) < (n : Int) := by omega
        by_cases hv : wd xs j = wd ys j
        · have HV := Lib.hid hv
          rw [hv] at ha
          clear hv
          go_wp2
          go_quiet (fail)
          go_wp2
          go_roundw
          case rel => exact ⟨j + 1, _, by omega, by go_num, rfl, fun i hi => by
            by_cases e : i = j
            · rw [e]; exact HV.out
            · exact HS.out i (by omega)⟩
          case measure => simp [intOf]; omega
        · have hne : xs ≠ ys := fun e => hv (by rw [e])
          have hu : (U (wd xs j) == U (wd ys j)) = false := by rw [U_beq, beq_eq_false_iff_ne]; exact hv
          have hu' : ¬ U (wd xs j) = U (wd ys j) := by rw [U_eq_iff]; exact hv
          have HN := Lib.hid hne
          clear hne hv
          go_wp2
          go_quiet (fail)
          go_wp2
          go_ret
          rw [decide_eq_false HN.out]
          exact ⟨rfl, _, World.drewN_drewN _ _ _⟩
      · obtain rfl : j = n := by omega
        go_wp2
        go_ret
        rw [decide_eq_true (ext_wd (by rw [hA.len, hB.len]) (fun i hi => HS.out i (by rw [← hA.len]; exact hi)))]
        exact ⟨rfl, k, rfl⟩
  · have hne : xs ≠ ys := fun e => hnm (by rw [← hA.len, ← hB.len, e])
    have HN := Lib.hid hne
    have hnm' : ¬ (n : Int) = (m : Int) := by omega
    clear hne
    go_enter Tryz.func89, Tryz.ntmps89
    go_wp2
    go_ret
    rw [decide_eq_false HN.out]
    exact ⟨rfl, 0, rfl⟩
end Go.Proofs.YtnfgpjfldgocaaaGreat
