/- The walk of ScanNext. -/
import Derived.Test.YtlbcebkllddhgaaScanAlive
import Derived.Test.YtlbcebkllddhgaaScanTheirs
namespace Go.Proofs.Ytlbcebkllddhgaa
open Go.RowKit Bm

attribute [local go_sem ↓] Go.wp_at_zero Go.wp_at_succ ldS_eq ldR_eq
attribute [local go_sem] bk_head bk_count

theorem bks_one_blk (b : BlkM) : bks [b] = bkC b := by simp [bks]

theorem reads_one (W : World) {b : BlkM} (hb : BlkOk b) : ReadsB (W.alloc (.cells (bkC b).toArray 48)) (some ⟨W.heap.size, 0, none⟩) 1 1 [b] := by
  have h := At.news W 48 (bkC b)
  exact ReadsB.of_at (bs := [b]) (rest := []) (by rw [bks_one_blk, List.append_nil]; exact h) (by intro x hx; rw [List.mem_singleton.1 hx]; exact hb) (Nat.le_refl 1) (by unfold maxLen; omega)

set_option maxRecDepth 100000 in
set_option maxHeartbeats 4000000 in
theorem scanNext_walk (b : BlkM) (hb : BlkOk b) (w : World) : Calls Try.prog 8 #[bkV b] w fun e w' => e = .returned (.bool true) ∧ Below w.heap.size w w' := by
  have hz := Theirs.dbk_zero
  obtain ⟨i0, hin, hz0, hz1, hz2⟩ := info_parts rbk_infoA
  have HOK := Lib.hid hb
  have HL := Lib.hid (bk_len hb)
  have AL := Lib.hid (alive6_any (w.alloc (.cells (bkC b).toArray 48)))
  have SN := Lib.hid (fun W => snext_any b HOK.out W)
  have SE := Lib.hid (fun W => sempty_any b HOK.out W)
  have hB0 : Below w.heap.size w (w.alloc (.cells (bkC b).toArray 48)) := (Below.refl _ w).alloc (Nat.le_refl _) _
  have HB0 := Lib.hid hB0
  have RB := Lib.hid (fun W : World => reads_one W hb)
  unfold bkV at *
  clear hb hB0
  go_enter Try.func8, Try.ntmps8
  go_upto_region 4 with (first
    | (go_at_call 9; (refine AL.out.mono ?_); rintro e w1 ⟨rfl, hb⟩; have A1 := Lib.hid ((At.news w _ (bkC b)).kept (Turned.of_below hb (Nat.le_refl _) NoBlock) (fun h => h)); have HB1 := Lib.hid (below_then HB0.out hb); clear hb)
    | (refine wpList_ldr _ rfl rfl rfl Try.underlying48 rfl rbk_size HL.out A1.out.rng ?_)
    | (refine wpList_build_one _ rfl rfl rfl Try.underlying28 hin hz0 hz1 (cs := (bkC b).toArray) (by simpa using HL.out) (by omega) (by omega) ?_)
    | (go_at_call 20; (refine (Theirs.any _ 1 1 [b] _ (RB.out w1) (by omega)).mono ?_); rintro e w2 ⟨B2, c2, rfl, hr, hb⟩; obtain ⟨gx, ox, rfl, _, hrx⟩ := hr.at_ (j := 0) (by omega); have HRX := Lib.hid (show w2.rangeAt gx ox (bkC b) by rw [Nat.zero_mul, Nat.add_zero] at hrx; exact hrx); have hb1 : Below w1.heap.size w1 (w1.alloc (.cells (bkC b).toArray 48)) := (Below.refl _ w1).alloc (Nat.le_refl _) _; have HB2 := Lib.hid (below_then (below_then HB1.out hb1) hb); clear hr hb hrx hb1)
    | (refine wpList_ldr _ rfl rfl rfl Try.underlying43 rfl bk_size HL.out HRX.out ?_)
    | (refine wpList_stm (pre := []) (post := []) (xs := bkC bk0) (ys := bkC b) _ _ rfl rfl rfl rfl bk_size (by rfl) HL.out (bk_one _) rfl (by simp) (At.news w2 _ (bkC bk0)) ?_; intro V A3 T3; rw [List.nil_append, List.append_nil] at A3; have HA3 := Lib.hid A3; have HT3 := Lib.hid T3; clear A3 T3))
  simp only [Act.put]
  have hsV : w2.heap.size < V.heap.size := HA3.out.lt
  have hbV : Below w.heap.size w V := below_then HB2.out (((Below.refl _ w2).alloc (Nat.le_refl _) _).trans (HT3.out.below (fun k hk => by unfold Just at hk; omega) (by simp)))
  have HBV := Lib.hid hbV
  have HSV := Lib.hid hsV
  have HC : Hid (∀ W, Below V.heap.size V W → At W w2.heap.size 43 (bkC b)) := Lib.hid (fun W hW => HA3.out.kept (Turned.of_below hW (Nat.le_refl _) NoBlock) (fun h => h))
  have hl : ∀ W, Below V.heap.size V W → (op_ex (ldB 43) (.pointer (some ⟨w2.heap.size, 0, none⟩)) W).choose = .ok (.value (.agg (bkC b).toArray)) W := fun W hW => ldS_at (HC.out W hW).rng HL.out
  have S0 : Below V.heap.size V V := Below.refl _ _
  clear hsV hbV
  by_cases h1 : b.head = 1
  · by_cases hneg : bkNext b < 0
    · have hN : bkNext b = -1 := by have := next_range b; omega
      have hK7 : nm b.kinds 7 ≠ 0 := (next_none hneg).resolve_left (fun h => h h1)
      have hE : bkEmpty b = false := by unfold bkEmpty; rw [hN]; rfl
      rw [hN] at SN
      rw [hE] at SE
      have hk7 : (nm b.kinds 7 != 0) = true := by simpa using hK7
      clear hN hE hK7 hneg
      go_wp2_with (first
        | (go_at_call 16; (refine (SN.out _).mono ?_); rintro e v1 ⟨rfl, hb⟩; have S1 := S0.trans (hb.mono S0.size); have c0 := (HC.out _ S1).cell 0; rw [bk_head, h1] at c0; clear hb)
        | (go_at_call 18; (refine (SE.out _).mono ?_); rintro e v2 ⟨rfl, hb⟩; have S2 := S1.trans (hb.mono S1.size); have d0 := (HC.out _ S2).cell 0; rw [bk_head, h1] at d0; have d7 := (HC.out _ S2).cell (2 + 7); rw [bk_kind HOK.out 7 (by omega)] at d7; clear hb))
      go_ret
      exact ⟨by simp, below_then HBV.out S2⟩
    · obtain ⟨n, hn⟩ : ∃ n : Nat, bkNext b = n := ⟨(bkNext b).toNat, by omega⟩
      obtain ⟨hn7, hz, hx⟩ := next_some hn
      rw [hn] at SN
      have HZ := Lib.hid hz
      have HX := Lib.hid hx
      have n0 : (0 : Int) ≤ (n : Int) := by omega
      have n7 : (n : Int) ≤ 7 := by omega
      have nm1 : ¬ (n : Int) < -1 := by omega
      have nm0 : ¬ (n : Int) < 0 := by omega
      have n8 : (n : Int) ≤ 8 := by omega
      have hE : bkEmpty b = ((n : Int) == 0) := by unfold bkEmpty; rw [hn]; rfl
      rw [hE] at SE
      clear hE hz hx hneg hn
      go_wp2_with (first
        | (go_at_call 16; (refine (SN.out _).mono ?_); rintro e v1 ⟨rfl, hb⟩; have S1 := S0.trans (hb.mono S0.size); have c0 := (HC.out _ S1).cell 0; rw [bk_head, h1] at c0; clear hb)
        | (go_at_call 18; (refine (SE.out _).mono ?_); rintro e v2 ⟨rfl, hb⟩; have S2 := S1.trans (hb.mono S1.size); have d0 := (HC.out _ S2).cell 0; rw [bk_head, h1] at d0; clear hb))
      have HS2 := Lib.hid S2
      have HA4 := Lib.hid (HC.out _ S2)
      go_loopw [53] (fun i wr => ∃ j : Nat, j ≤ 8 - n ∧ i = .int .i64 j ∧ wr = v2) (fun i _ => 8 - n - (intOf i).toNat)
      case atStart => exact ⟨0, by omega, rfl, rfl⟩
      case round =>
        obtain ⟨j, hj, rfl, rfl⟩ := hrel
        by_cases hlt : j < 8 - n
        · have kc := HA4.out.cell (2 + (n + j))
          rw [bk_kind HOK.out (n + j) (by omega), HZ.out (n + j) (by omega) (by omega), ← Nat.add_assoc] at kc
          have i0 : (0 : Int) ≤ (j : Int) := by omega
          have i1 : (j : Int) < ((8 - n : Nat) : Int) := by omega
          go_wp2
          go_roundw
          case rel => exact ⟨j + 1, by omega, by go_num, trivial⟩
          case measure => simp [intOf]; omega
        · obtain rfl : j = 8 - n := by omega
          cases n with
          | zero =>
            go_wp2
            go_ret
            exact ⟨rfl, below_then HBV.out HS2.out⟩
          | succ n =>
            have kc := HA4.out.cell (2 + n)
            rw [bk_kind HOK.out n (by omega)] at kc
            have hx0 : nm b.kinds n ≠ 0 := HX.out (by omega)
            have e1 : ((n + 1 : Nat) : Int) - 1 = (n : Int) := by omega
            have hx1 : (nm b.kinds n != 0) = true := by simpa using hx0
            have e2 : (((n : Int) + 1) == 0) = false := by rw [beq_eq_false_iff_ne]; omega
            go_wp2
            go_ret
            exact ⟨rfl, below_then HBV.out HS2.out⟩
  · have hN : bkNext b = -1 := next_head h1
    have hE : bkEmpty b = false := by unfold bkEmpty; rw [hN]; rfl
    rw [hN] at SN
    rw [hE] at SE
    have hh : (b.head != 1) = true := by simpa using h1
    clear hN hE
    go_wp2_with (first
      | (go_at_call 16; (refine (SN.out _).mono ?_); rintro e v1 ⟨rfl, hb⟩; have S1 := S0.trans (hb.mono S0.size); have c0 := (HC.out _ S1).cell 0; rw [bk_head] at c0; clear hb)
      | (go_at_call 18; (refine (SE.out _).mono ?_); rintro e v2 ⟨rfl, hb⟩; have S2 := S1.trans (hb.mono S1.size); have d0 := (HC.out _ S2).cell 0; rw [bk_head] at d0; clear hb))
    go_ret
    exact ⟨by simp, below_then HBV.out S2⟩
end Go.Proofs.Ytlbcebkllddhgaa
