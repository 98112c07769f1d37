/- Contracts of the document's Next, Empty, Counts (layer scan). -/
import Derived.Test.YtlbcebkllddhgaaScanRows
import Derived.Test.YtlbcebkllddhgaaScanFacts
import Derived.BigRegion
import Derived.Deep.DeepCutAuto
namespace Go.Proofs.Ytlbcebkllddhgaa
open Go.RowKit Bm

attribute [local go_sem] bk_head bk_count

theorem rbk_info : (Try.prog.info? 48).map (fun i => (i.zero, i.size)) = some (some (.agg (bkC bk0).toArray), 66) := by kernel_rfl
theorem rbk_zero (w : World) : (zeroValue 48).run Try.prog w = .ok (.agg (bkC bk0).toArray) w := (zero_of_info rbk_info).1 w
theorem rbk_size : (Try.prog.info? 48).map (·.size) = some 66 := (zero_of_info rbk_info).2

theorem next_at {b : BlkM} (h1 : b.head = 1) (n : Nat) (hn : n ≤ 8) (hz : ∀ i, n ≤ i → i < 8 → nm b.kinds i = 0) (hx : 0 < n → nm b.kinds (n - 1) ≠ 0) : bkNext b = if n = 8 then -1 else (n : Int) := by
  have e : freeFrom b.kinds 8 = n := free_is b.kinds 8 n hn hz hx
  unfold bkNext
  rw [if_pos h1, e]

set_option maxRecDepth 100000 in
set_option maxHeartbeats 2000000 in
theorem rnext_any (b : BlkM) (hb : BlkOk b) (w : World) : Calls Try.prog 17 #[bkV b] w fun e w' => e = .returned (.int .i64 (bkNext b)) ∧ Below w.heap.size w w' := by
  have HK := Lib.hid hb
  clear hb
  unfold bkV
  by_cases h1 : b.head = 1
  · go_enter Try.func17, Try.ntmps17
    go_wp2
    go_loopw [3] (fun i wr => ∃ j : Nat, j ≤ 8 ∧ i = .int .i64 j ∧ wr = w.alloc (.cells (bkC b).toArray 48) ∧ ∀ i, j ≤ i → i < 8 → nm b.kinds i = 0) (fun i _ => (intOf i).toNat)
    case atStart => exact ⟨8, by omega, rfl, rfl, fun i h h' => absurd h (by omega)⟩
    case round =>
      obtain ⟨j, hj, rfl, rfl, hs⟩ := hrel
      have HS := Lib.hid hs
      clear hs
      cases j with
      | zero =>
        have hN : bkNext b = 0 := by rw [next_at h1 0 (by omega) HS.out (fun h => absurd h (by omega))]; rfl
        have HN := Lib.hid hN
        clear hN
        go_wp2
        all_goals first
          | (exfalso; omega)
          | (go_ret; rw [HN.out]; exact ⟨rfl, (Below.refl _ w).alloc (Nat.le_refl _) _⟩)
      | succ j =>
        have hk := (At.news w 48 (bkC b)).cell (2 + j)
        rw [bk_kind HK.out j (by omega)] at hk
        have e1 : ((j + 1 : Nat) : Int) - 1 = (j : Int) := by omega
        have hj' := hj
        by_cases hv : nm b.kinds j = 0
        · rw [hv] at hk
          have HV := Lib.hid hv
          clear hv
          go_wp2
          go_roundw
          case rel => exact ⟨j, by omega, by go_num, trivial, fun i hi h8 => by
            by_cases e : i = j
            · rw [e]; exact HV.out
            · exact HS.out i (by omega) h8⟩
          case measure => simp [intOf]
        · have hN : bkNext b = if j + 1 = 8 then -1 else ((j + 1 : Nat) : Int) := next_at h1 (j + 1) hj HS.out (fun _ => hv)
          have HN := Lib.hid hN
          clear hN
          have hv' : (nm b.kinds j == 0) = false := by simpa using hv
          by_cases h8 : j = 7
          · subst h8
            go_wp2
            all_goals first
              | (exfalso; omega)
              | (go_ret; rw [HN.out]; exact ⟨rfl, (Below.refl _ w).alloc (Nat.le_refl _) _⟩)
          · have h8' : ¬ (j : Int) = 7 := by omega
            have h8'' : ((j : Int) + 1 == 8) = false := by rw [beq_eq_false_iff_ne]; omega
            go_wp2
            all_goals first
              | (exfalso; omega)
              | (go_ret; rw [HN.out, if_neg (by omega)]; exact ⟨rfl, (Below.refl _ w).alloc (Nat.le_refl _) _⟩)
  · go_enter Try.func17, Try.ntmps17
    go_wp2
    go_ret
    rw [next_head h1]
    exact ⟨rfl, (Below.refl _ w).alloc (Nat.le_refl _) _⟩

set_option maxRecDepth 100000 in
set_option maxHeartbeats 2000000 in
theorem rempty_any (b : BlkM) (hb : BlkOk b) (w : World) : Calls Try.prog 19 #[bkV b] w fun e w' => e = .returned (.bool (bkEmpty b)) ∧ Below w.heap.size w w' := by
  have HS := Lib.hid (fun W => rnext_any b hb W)
  have HL := Lib.hid (bk_len hb)
  clear hb
  unfold bkV at *
  go_enter Try.func19, Try.ntmps19
  go_wp2_with (first
    | (refine wpList_ldm (pre := []) (post := []) _ rfl rfl rfl Try.underlying48 rfl rbk_size HL.out rfl (by simp) (At.news w _ _) ?_)
    | (go_at_call 17; (refine (HS.out _).mono ?_); rintro e w1 ⟨rfl, hb⟩))
  go_ret
  refine ⟨?_, ((Below.refl _ w).alloc (Nat.le_refl _) _).trans (hb.mono (by simp))⟩
  rfl

theorem rng_cell {w : World} {g off i : Nat} {cs : List Value} {v : Value} (h : w.rangeAt g off cs) (hv : cs[i]? = some v) : w.cell? ⟨g, off + i, none⟩ = some v := h i v hv

set_option maxRecDepth 100000 in
set_option maxHeartbeats 2000000 in
theorem rcounts_any (A : Option Addr) (n c : Nat) (bs : List BlkM) (w : World) (hA : ReadsB w A n c bs) (hn : n ≤ 1000000) : Calls Try.prog 15 #[.slice A n c] w fun e w' => e = .returned (.int .u32 (U (bkCounts bs))) ∧ w' = w := by
  have HA := Lib.hid hA
  clear hA
  go_enter Try.func15, Try.ntmps15
  go_wp2
  go_loopw [3, 4] (fun m i wr => ∃ j : Nat, j ≤ n ∧ i = .int .i64 j ∧ m = .int .u32 (U (bkCounts (bs.take j))) ∧ wr = w) (fun _ i _ => n - (intOf i).toNat)
  case atStart => exact ⟨0, by omega, rfl, rfl, rfl⟩
  case round =>
    obtain ⟨j, hj, rfl, rfl, rfl⟩ := hrel
    by_cases hlt : j < n
    · obtain ⟨g, off, rfl, hg, hr⟩ := HA.out.at_ hlt
      have c0 := hr 0 _ (bk_head _)
      have c1 := hr 1 _ (bk_count _)
      rw [Nat.add_zero] at c0
      have HR' := Lib.hid hr
      have i0 : (0 : Int) ≤ (j : Int) := by omega
      have i1 : (j : Int) < (n : Int) := by omega
      clear hr
      have HST := Lib.hid (bkCounts_step bs j (by rw [HA.out.len]; exact hlt))
      by_cases h1 : (bkN bs j).head = 1
      · by_cases hm : U (bkCounts (bs.take j)) < U (bkN bs j).count
        · have HM := Lib.hid (show bkCounts (bs.take (j + 1)) = (bkN bs j).count by rw [HST.out]; unfold bkMax; rw [if_pos ⟨h1, hm⟩])
          go_wp2
          exact ⟨⟨j + 1, by omega, by go_num, by rw [HM.out], trivial⟩, by simp [intOf]; omega⟩
        · have HM := Lib.hid (show bkCounts (bs.take (j + 1)) = bkCounts (bs.take j) by rw [HST.out]; unfold bkMax; rw [if_neg (fun h => hm h.2)])
          have hm' : U (bkN bs j).count ≤ U (bkCounts (bs.take j)) := by omega
          go_wp2
          exact ⟨⟨j + 1, by omega, by go_num, by rw [HM.out], trivial⟩, by simp [intOf]; omega⟩
      · have HM := Lib.hid (show bkCounts (bs.take (j + 1)) = bkCounts (bs.take j) by rw [HST.out]; unfold bkMax; rw [if_neg (fun h => h1 h.1)])
        have h1' : ((bkN bs j).head == 1) = false := by simpa using h1
        go_wp2
        exact ⟨⟨j + 1, by omega, by go_num, by rw [HM.out], trivial⟩, by simp [intOf]; omega⟩
    · obtain rfl : j = n := by omega
      go_wp2
      go_ret
      rw [List.take_of_length_le (by rw [HA.out.len]; exact Nat.le_refl _)]
      exact ⟨rfl, rfl⟩
end Go.Proofs.Ytlbcebkllddhgaa
