/- The walk of ScanApart. -/
import Derived.Test.YtlbcebkllddhgaaScanAlive
import Derived.Test.YtlbcebkllddhgaaScanEq
import Derived.Deep.QuietTactic
import Derived.BigQuiet
namespace Go.Proofs.Ytlbcebkllddhgaa
open Go.RowKit Bm

attribute [local go_sem ↓] Go.wp_at_zero Go.wp_at_succ ldS_eq ldR_eq

theorem found_at (ws : List (BitVec 32)) (m i : Nat) (h : i < m) : bkN (found ws (List.range m)) i = bkOf (chunk ws i) := by
  unfold bkN found
  rw [List.getD_eq_getElem?_getD, List.getElem?_map, List.getElem?_range h]
  rfl
theorem scOf_found {ws : List (BitVec 32)} {m : Nat} (h : ws.length = 64 * m) (h1 : 1 ≤ m) (h2 : m ≤ 64) : scOf ws = (found ws (List.range m), 0) := scOf_good h h1 h2

set_option maxRecDepth 100000 in
set_option maxHeartbeats 4000000 in
theorem scanApart_walk (A : Option Addr) (n cap : Nat) (xs : List (BitVec 32)) (a1 : Int) (b1 : (Lit.int .u16 a1).wf = true) (a2 : Int) (b2 : (Lit.int .u32 a2).wf = true) (w : World) (hA : ReadsU w A n cap xs) : Calls Try.prog 6 #[.slice A n cap, .int .u16 a1, .int .u32 a2] w fun e w' => e = .returned (.bool true) ∧ Below w.heap.size w w' := by
  have HA := Lib.hid hA
  have hlen := hA.len
  have hnm : (n : Int) ≤ 9223372036854775807 := by have := hA.le; have := hA.max; unfold maxLen at *; omega
  have AL := Lib.hid (alive6_any w)
  have bb1 := bounds_u16 b1
  have bb2 := bounds_u32 b2
  obtain ⟨vb, rfl⟩ := U_of bb2.1 (by omega)
  obtain ⟨at_, rfl⟩ : ∃ at_ : Nat, a1 = (at_ : Int) := ⟨a1.toNat, by omega⟩
  clear hA b1 b2 bb2
  by_cases hn0 : n = 0
  · subst hn0
    go_enter Try.func6, Try.ntmps6
    go_wp2_with (go_at_call 9; (refine AL.out.mono ?_); rintro e w1 ⟨rfl, hb⟩; have HB1 := Lib.hid hb; clear hb)
    go_ret
    exact ⟨rfl, HB1.out⟩
  by_cases hn : n ≤ 512
  · have hn' : (n : Int) ≤ 512 := by omega
    have hn0' : ¬ (n : Int) = 0 := by omega
    by_cases hg : n % 64 = 0 ∧ 1 ≤ n / 64 ∧ n / 64 ≤ 64
    · obtain ⟨m, rfl⟩ : ∃ m, n = 64 * m := ⟨n / 64, by omega⟩
      have m1 : 1 ≤ m := by omega
      have m2 : m ≤ 64 := by omega
      obtain ⟨k, hk⟩ : ∃ k, k = at_ % (64 * m) := ⟨_, rfl⟩
      have hk1 : k < 64 * m := by rw [hk]; exact Nat.mod_lt _ (by omega)
      have hk2 : (at_ : Int) % (64 * (m : Int)) = (k : Int) := by rw [hk]; simp
      have SX := Lib.hid (scOf_found hlen m1 m2)
      have SY := Lib.hid (scOf_found (ws := xs.set k vb) (by rw [List.length_set]; exact hlen) m1 m2)
      have hm1 : ¬ (64 * (m : Int)) = 0 := by omega
      have hm2 : (64 * (m : Int) == 0) = false := by rw [beq_eq_false_iff_ne]; omega
      have hm3 : 64 * (m : Int) ≤ 512 := by omega
      have hm4 : decide (512 < 64 * (m : Int)) = false := by rw [decide_eq_false_iff_not]; omega
      clear hk hg
      go_enter Try.func6, Try.ntmps6
      go_wp2_with (first
        | (go_at_call 9; (refine AL.out.mono ?_); rintro e w1 ⟨rfl, hb⟩; have HB1 := Lib.hid hb; clear hb)
        | (go_at_call 10; (refine (swords_any _ _ _ _ _ (HA.out.kept HB1.out)).mono ?_); rintro e w2 ⟨B2, c2, rfl, hr, hb⟩; rw [SX.out] at hr ⊢; dsimp only at hr ⊢; rw [found_len, List.length_range] at hr ⊢; have HR2 := Lib.hid hr; have HB2 := Lib.hid (below_then HB1.out hb); clear hr hb)
        | (at_builtin; refine halt_here ?_))
      obtain ⟨ad, rfl, _, _⟩ := HA.out.cell (by omega)
      refine Lib.hid ?_
      rw [hk2]
      refine wpList_appW (xs := []) (ys := xs) _ _ rfl rfl rfl (World.ownsRow_nil w2 w2.heap.size 33 1) rfl (HA.out.kept HB2.out) (by omega) (by omega) (Nat.le_refl _) ?_
      intro g cap3 w3 hO hb3
      rw [Nat.zero_add, List.nil_append] at hO
      obtain ⟨rest, hA3, hl3, _, hmx3, hg3⟩ := at_of_own hO
      simp only [Act.put]
      have hxk : k < (Us xs).length := by rw [Us_length]; omega
      have k0 := hA3.cell k
      have f0 := hA3.frozen k
      rw [List.getElem?_append_left hxk, Us_get _ _ (by omega)] at k0
      have A4 := hA3.put k (.int .u32 (U vb))
      rw [List.set_append_left _ _ hxk, Us_set] at A4
      have r4 := ReadsU.of_at (cap := cap3) A4 (by rw [← Us_set, List.length_append, List.length_set, ← List.length_append, hl3, Nat.mul_one]) hmx3
      rw [List.length_set, hlen] at r4
      have R4 := Lib.hid r4
      have hb4 : Below w2.heap.size w2 (w3.setCell ⟨g, k, none⟩ (.int .u32 (U vb))) := hb3.setCell (p := ⟨g, k, none⟩) hg3 _
      have HB4 := Lib.hid (below_then HB2.out hb4)
      have HX4 := Lib.hid (HR2.out.kept hb4)
      have i0 : (0 : Int) ≤ (k : Int) := by omega
      have i1 : (k : Int) < 64 * (m : Int) := by omega
      clear hO hA3 A4 r4 hb3 hb4
      go_wp2_with (go_at_call 10; (refine (swords_any _ _ _ _ _ R4.out).mono ?_); rintro e w5 ⟨B5, c5, rfl, hr, hb⟩; rw [SY.out] at hr ⊢; dsimp only at hr ⊢; rw [found_len, List.length_range] at hr ⊢; have HY5 := Lib.hid hr; have HX5 := Lib.hid (HX4.out.kept hb); have HB5 := Lib.hid (below_then HB4.out hb); clear hr hb)
      obtain ⟨q, hq⟩ : ∃ q, q = k / 64 := ⟨_, rfl⟩
      obtain ⟨r, hr⟩ : ∃ r, r = k % 64 := ⟨_, rfl⟩
      have hq' : (k : Int) / 64 = (q : Int) := by omega
      have hr' : (k : Int) % 64 = (r : Int) := by omega
      have HQ := Lib.hid hq
      have HRR := Lib.hid hr
      clear hq hr
      go_loopw [61] (fun i wr => ∃ j : Nat, j ≤ m ∧ i = .int .i64 j ∧ wr.heap = w5.heap ∧ Below w.heap.size w wr) (fun i _ => m - (intOf i).toNat)
      case atStart => exact ⟨0, by omega, rfl, rfl, HB5.out⟩
      case round =>
        obtain ⟨j, hj, rfl, hh, hB⟩ := hrel
        by_cases hlt : j < m
        · obtain ⟨gx, ox, rfl, hgx, hrx⟩ := HX5.out.at_ hlt
          obtain ⟨gy, oy, rfl, hgy, hry⟩ := HY5.out.at_ hlt
          have okx := HX5.out.okN hlt
          have oky := HY5.out.okN hlt
          rw [found_at _ m j hlt] at hrx hry okx oky
          have HOKX := Lib.hid okx
          have HOKY := Lib.hid oky
          have lx : ∀ W : World, W.heap = w5.heap → (op_ex (ldB 43) (.pointer (some ⟨gx, ox + j * 66, none⟩)) W).choose = .ok (.value (.agg (bkC (bkOf (chunk xs j))).toArray)) W := fun W hW => ldS_at (range_heap hrx hW) (bk_len HOKX.out)
          have ly : ∀ W : World, W.heap = w5.heap → (op_ex (ldB 43) (.pointer (some ⟨gy, oy + j * 66, none⟩)) W).choose = .ok (.value (.agg (bkC (bkOf (chunk (xs.set k vb) j))).toArray)) W := fun W hW => ldS_at (range_heap hry hW) (bk_len HOKY.out)
          have j0 : (0 : Int) ≤ (j : Int) := by omega
          have j1 : (j : Int) < (m : Int) := by omega
          have HBB := Lib.hid hB
          clear hrx hry okx oky hB hgx hgy
          by_cases hv : bkOf (chunk xs j) = bkOf (chunk (xs.set k vb) j)
          · have eq : ∀ W : World, (Op.equalIn 10000 43 (.agg (bkC (bkOf (chunk xs j))).toArray) (.agg (bkC (bkOf (chunk (xs.set k vb) j))).toArray)).run Try.prog W = .ok true W := fun W => by rw [run_eq_blk 9994 HOKX.out HOKY.out W, decide_eq_true hv]
            clear hv
            go_wp2_with fail
            go_quiet (fail)
            have hh' : (wr.drewN nq).heap = w5.heap := hh
            have hbd : Below w.heap.size w (wr.drewN nq) := HBB.out.trans (below_drewN' _ _ _)
            go_wp2
            go_roundw
            case rel => exact ⟨j + 1, by omega, by go_num, hh', hbd⟩
            case measure => simp [intOf]; omega
          · have hjq : j = k / 64 := Classical.byContradiction fun h => hv (by rw [chunk_set xs k vb j h])
            have hr60 : r < 60 := by
              rw [HRR.out]
              refine Classical.byContradiction fun h => hv ?_
              rw [hjq, chunk_set_tail xs k vb (by omega)]
            have eq : ∀ W : World, (Op.equalIn 10000 43 (.agg (bkC (bkOf (chunk xs j))).toArray) (.agg (bkC (bkOf (chunk (xs.set k vb) j))).toArray)).run Try.prog W = .ok false W := fun W => by rw [run_eq_blk 9994 HOKX.out HOKY.out W, decide_eq_false hv]
            obtain rfl : j = q := by rw [HQ.out]; exact hjq
            have hr60' : (r : Int) < 60 := by omega
            clear hv hjq
            go_wp2_with fail
            have hne : ((j : Int) != (k : Int) / 64) = false := by rw [hq']; simp
            have hge : decide ((60 : Int) ≤ (k : Int) % 64) = false := by rw [hr', decide_eq_false_iff_not]; omega
            go_quiet (fail)
            have hh' : (wr.drewN nq).heap = w5.heap := hh
            have hbd : Below w.heap.size w (wr.drewN nq) := HBB.out.trans (below_drewN' _ _ _)
            go_wp2
            go_roundw
            case rel => exact ⟨j + 1, by omega, by go_num, hh', hbd⟩
            case measure => simp [intOf]; omega
        · obtain rfl : j = m := by omega
          go_wp2
          go_ret
          exact ⟨rfl, hB⟩
    · have hbad := scOf_bad (ws := xs) (by rw [hlen]; exact hg)
      have HBAD := Lib.hid hbad
      have hn1 : ((n : Int) == 0) = false := by rw [beq_eq_false_iff_ne]; omega
      have hn2 : decide (512 < (n : Int)) = false := by rw [decide_eq_false_iff_not]; omega
      clear hbad
      go_enter Try.func6, Try.ntmps6
      go_wp2_with (first
        | (go_at_call 9; (refine AL.out.mono ?_); rintro e w1 ⟨rfl, hb⟩; have HB1 := Lib.hid hb; clear hb)
        | (go_at_call 10; (refine (swords_any _ _ _ _ _ (HA.out.kept HB1.out)).mono ?_); rintro e w2 ⟨B2, c2, rfl, hr, hb⟩; rw [HBAD.out]; dsimp only [List.length_nil]; have HB2 := Lib.hid (below_then HB1.out hb); clear hr hb))
      go_ret
      exact ⟨rfl, HB2.out⟩
  · have hn' : ¬ (n : Int) ≤ 512 := by omega
    go_enter Try.func6, Try.ntmps6
    go_wp2_with (go_at_call 9; (refine AL.out.mono ?_); rintro e w1 ⟨rfl, hb⟩; have HB1 := Lib.hid hb; clear hb)
    go_ret
    exact ⟨rfl, HB1.out⟩
end Go.Proofs.Ytlbcebkllddhgaa
