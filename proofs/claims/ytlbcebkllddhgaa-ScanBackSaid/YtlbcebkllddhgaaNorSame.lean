/- The document's comparison of two rows of words: of rows that read as the same words it is true. -/
import Derived.Test.YtlbcebkllddhgaaRows
import Derived.Test.YtlbcebkllddhgaaLaw
import Derived.Deep.QuietTactic
import Derived.BigQuiet
import Derived.Lib.Hide
namespace Go.Proofs.Ytlbcebkllddhgaa
open Go.RowKit Bm

theorem ReadsU.of_at {w : World} {g cap : Nat} {xs : List (BitVec 32)} {rest : List Value} (h : At w g 33 (Us xs ++ rest)) (hl : (Us xs ++ rest).length = cap) (hm : cap ≤ maxLen) : ReadsU w (some ⟨g, 0, none⟩) xs.length cap xs :=
  ⟨rfl, by rw [← hl, List.length_append, Us_length]; omega, hm, fun _ => ⟨_, rfl, h.lt, fun j u hu => by
    have e : (⟨g, 0, none⟩ : Addr).add j = ⟨g, j, none⟩ := by unfold Addr.add; split <;> simp_all
    rw [e, h.cell, List.getElem?_append_left (List.getElem?_eq_some_iff.1 hu).1]
    exact hu⟩⟩
theorem ReadsU.drewN {w : World} {A : Option Addr} {n cap : Nat} {xs : List (BitVec 32)} (h : ReadsU w A n cap xs) (m : Nat) : ReadsU (w.drewN m) A n cap xs := ⟨h.len, h.le, h.max, h.cell⟩

set_option maxRecDepth 100000 in
set_option maxHeartbeats 800000 in
theorem same_words (A B : Option Addr) (n c d : Nat) (xs : List (BitVec 32)) (w : World) (hA : ReadsU w A n c xs) (hB : ReadsU w B n d xs) (hn : n ≤ 1000000) :
    Calls Try.prog 43 #[.slice A n c, .slice B n d] w fun e w' => e = .returned (.bool true) ∧ ∃ m, w' = w.drewN m := by
  have hAl := hA.le
  have hBl := hB.le
  go_enter Try.func43, Try.ntmps43
  go_wp2
  go_loopw [5] (fun i wr => ∃ j m : Nat, j ≤ n ∧ i = .int .i64 j ∧ wr = w.drewN m) (fun i _ => n - (intOf i).toNat)
  case atStart => exact ⟨0, 0, by omega, rfl, rfl⟩
  case round =>
    obtain ⟨j, m, hj, rfl, rfl⟩ := hrel
    by_cases hlt : j < n
    · obtain ⟨a, rfl, ha⟩ := hA.at_ hlt
      obtain ⟨b, rfl, hb⟩ := hB.at_ hlt
      have i0 : (0 : Int) ≤ (j : Int) := by omega
      have i1 : (j : Int) < (n : Int) := by omega
      go_wp2
      go_quiet (fail)
      go_wp2
      go_roundw
      case rel => exact ⟨j + 1, _, by omega, by go_num, rfl⟩
      case measure => simp [intOf]; omega
    · obtain rfl : j = n := by omega
      go_wp2
      go_ret
      exact ⟨rfl, m, rfl⟩
end Go.Proofs.Ytlbcebkllddhgaa
