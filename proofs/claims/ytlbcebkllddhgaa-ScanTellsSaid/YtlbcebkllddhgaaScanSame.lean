/- Contract of the document's Same (layer scan). -/
import Derived.Test.YtlbcebkllddhgaaHeld
import Derived.Test.YtlbcebkllddhgaaScanEq
namespace Go.Proofs.Ytlbcebkllddhgaa
open Go.RowKit Bm

attribute [local go_sem ↓] Go.wp_at_zero Go.wp_at_succ ldR_eq

theorem ext_bk {xs ys : List BlkM} (hl : xs.length = ys.length) (h : ∀ i, i < xs.length → bkN xs i = bkN ys i) : xs = ys := by
  apply List.ext_getElem hl
  intro i h1 h2
  have := h i h1
  unfold bkN at this
  rw [List.getD_eq_getElem?_getD, List.getD_eq_getElem?_getD, List.getElem?_eq_getElem h1, List.getElem?_eq_getElem h2] at this
  exact this

set_option maxRecDepth 100000 in
set_option maxHeartbeats 2000000 in
theorem rsame_any (A B : Option Addr) (n m c d : Nat) (xs ys : List BlkM) (w : World) (hA : ReadsB w A n c xs) (hB : ReadsB w B m d ys) (hn : n ≤ 1000000) (hm : m ≤ 1000000) : Calls Try.prog 12 #[.slice A n c, .slice B m d] w fun e w' => e = .returned (.bool (decide (xs = ys))) ∧ w'.heap = w.heap ∧ Below w.heap.size w w' := by
  have HA := Lib.hid hA
  have HB := Lib.hid hB
  by_cases hnm : n = m
  · subst hnm
    clear hA hB
    go_enter Try.func12, Try.ntmps12
    go_wp2
    go_loopw [5] (fun i wr => ∃ j : Nat, j ≤ n ∧ i = .int .i64 j ∧ (wr.heap = w.heap ∧ Below w.heap.size w wr) ∧ ∀ i, i < j → bkN xs i = bkN ys i) (fun i _ => n - (intOf i).toNat)
    case atStart => exact ⟨0, by omega, rfl, ⟨rfl, Below.refl _ _⟩, fun i h => absurd h (by omega)⟩
    case round =>
      obtain ⟨j, hj, rfl, hh, hs⟩ := hrel
      have HS := Lib.hid hs
      have HH := Lib.hid hh
      clear hs hh
      by_cases hlt : j < n
      · obtain ⟨g1, o1, rfl, _, hr1⟩ := HA.out.at_ hlt
        obtain ⟨g2, o2, rfl, _, hr2⟩ := HB.out.at_ hlt
        have i0 : (0 : Int) ≤ (j : Int) := by omega
        have i1 : (j : Int) < (n : Int) := by omega
        have l1 : ∀ W : World, W.heap = w.heap → (op_ex (ldB 48) (.pointer (some ⟨g1, o1 + j * 66, none⟩)) W).choose = .ok (.value (.agg (bkC (bkN xs j)).toArray)) W := fun W hW => ldR_at (range_heap hr1 hW) (bk_len (HA.out.okN hlt))
        have l2 : ∀ W : World, W.heap = w.heap → (op_ex (ldB 48) (.pointer (some ⟨g2, o2 + j * 66, none⟩)) W).choose = .ok (.value (.agg (bkC (bkN ys j)).toArray)) W := fun W hW => ldR_at (range_heap hr2 hW) (bk_len (HB.out.okN hlt))
        have eq : ∀ W : World, (Op.equalIn 10000 48 (.agg (bkC (bkN xs j)).toArray) (.agg (bkC (bkN ys j)).toArray)).run Try.prog W = .ok (decide (bkN xs j = bkN ys j)) W := fun W => run_eq_rblk 9994 (HA.out.okN hlt) (HB.out.okN hlt) W
        clear hr1 hr2
        have hw0 : wr.heap = w.heap := HH.out.1
        by_cases hv : bkN xs j = bkN ys j
        · have HV := Lib.hid hv
          have eq' : ∀ W : World, (Op.equalIn 10000 48 (.agg (bkC (bkN xs j)).toArray) (.agg (bkC (bkN ys j)).toArray)).run Try.prog W = .ok true W := fun W => by rw [eq W, decide_eq_true hv]
          clear eq hv
          go_wp2_with fail
          go_region_held3 (fun w' => w'.heap = w.heap) (first | assumption | exact hw0) (fail)
          have hbd : Below w.heap.size w wr.drew := HH.out.2.drew
          go_wp2
          go_roundw
          case rel => exact ⟨j + 1, by omega, by go_num, ⟨hw0, hbd⟩, fun i hi => by
            by_cases e : i = j
            · rw [e]; exact HV.out
            · exact HS.out i (by omega)⟩
          case measure => simp [intOf]; omega
        · have hne : xs ≠ ys := fun e => hv (by rw [e])
          have HN := Lib.hid hne
          have eq' : ∀ W : World, (Op.equalIn 10000 48 (.agg (bkC (bkN xs j)).toArray) (.agg (bkC (bkN ys j)).toArray)).run Try.prog W = .ok false W := fun W => by rw [eq W, decide_eq_false hv]
          clear eq hv hne
          go_wp2_with fail
          go_region_held3 (fun w' => w'.heap = w.heap) (first | assumption | exact hw0) (fail)
          have hbd : Below w.heap.size w wr.drew := HH.out.2.drew
          go_wp2
          go_ret
          rw [decide_eq_false HN.out]
          exact ⟨rfl, hw0, hbd⟩
      · obtain rfl : j = n := by omega
        go_wp2
        go_ret
        rw [decide_eq_true (ext_bk (by rw [HA.out.len, HB.out.len]) (fun i hi => HS.out i (by rw [← HA.out.len]; exact hi)))]
        exact ⟨rfl, HH.out⟩
  · have hne : xs ≠ ys := fun e => hnm (by rw [← hA.len, ← hB.len, e])
    have HN := Lib.hid hne
    have hnm' : ¬ (n : Int) = (m : Int) := by omega
    clear hne hA hB
    go_enter Try.func12, Try.ntmps12
    go_wp2
    go_ret
    rw [decide_eq_false HN.out]
    exact ⟨rfl, rfl, Below.refl _ _⟩
end Go.Proofs.Ytlbcebkllddhgaa
