/- The walk of ScanSizes. -/
import Derived.Test.YtlbcebkllddhgaaScanAlive
import Derived.Test.YtlbcebkllddhgaaScanEq
import Derived.Deep.QuietTactic
import Derived.BigQuiet
namespace Go.Proofs.Ytlbcebkllddhgaa
open Go.RowKit Bm

attribute [local go_sem ↓] Go.wp_at_zero Go.wp_at_succ ldS_eq ldR_eq
attribute [local go_sem] bk_head bk_count

theorem scOf_same (k : Nat) (v : BitVec 32) (m : Nat) (h : k = 64 * m) (h1 : 1 ≤ m) (h2 : m ≤ 64) : scOf (List.replicate k v) = (List.replicate m (bkOf (List.replicate 64 v)), 0) := by
  rw [scOf_good (by rw [List.length_replicate]; exact h) h1 h2]
  congr 1
  apply List.ext_getElem
  · simp
  · intro i h3 h4
    simp only [List.length_map, List.length_range] at h3
    simp only [List.getElem_map, List.getElem_range, List.getElem_replicate]
    rw [chunk_same k v i (by omega)]

theorem made_zero (n : Nat) : (madeCells (Value.cells (.int .u32 0)) (n * 1)).toList = Us (List.replicate n 0#32) := by
  rw [Nat.mul_one]
  show (madeCells #[.int .u32 0] n).toList = _
  rw [made_zeros]
  unfold Us
  rw [List.map_replicate]
  rfl
theorem set_next (k j : Nat) (v : BitVec 32) (h : j < k) : (List.replicate j v ++ List.replicate (k - j) 0#32).set j v = List.replicate (j + 1) v ++ List.replicate (k - (j + 1)) 0#32 := by
  obtain ⟨d, rfl⟩ : ∃ d, k = j + 1 + d := ⟨k - (j + 1), by omega⟩
  rw [List.set_append_right _ _ (by simp), List.length_replicate, Nat.sub_self, show j + 1 + d - j = d + 1 by omega, show j + 1 + d - (j + 1) = d by omega, List.replicate_succ, List.set_cons_zero, List.replicate_succ']
  simp

set_option maxRecDepth 100000 in
set_option maxHeartbeats 4000000 in
theorem scanSizes_walk (a1 : Int) (b1 : (Lit.int .u16 a1).wf = true) (a2 : Int) (b2 : (Lit.int .u32 a2).wf = true) (w : World) : Calls Try.prog 7 #[.int .u16 a1, .int .u32 a2] w fun e w' => e = .returned (.bool true) ∧ Below w.heap.size w w' := by
  have AL := Lib.hid (alive6_any w)
  have bb1 := bounds_u16 b1
  have bb2 := bounds_u32 b2
  obtain ⟨vb, rfl⟩ := U_of bb2.1 (by omega)
  obtain ⟨k, hk⟩ : ∃ k : Nat, a1 % 200 = (k : Int) := ⟨(a1 % 200).toNat, by omega⟩
  have hk2 : k < 200 := by omega
  obtain ⟨i0, hin, hz0, hz1, hz2⟩ := info_parts infoU
  clear b1 b2 bb2
  have a10 : (0 : Int) ≤ a1 := bb1.1
  go_enter Try.func7, Try.ntmps7
  go_wp2_with (first
    | (go_at_call 9; (refine AL.out.mono ?_); rintro e w1 ⟨rfl, hb⟩; have HB1 := Lib.hid hb; clear hb)
    | (at_make; refine halt_here ?_))
  refine Lib.hid ?_
  rw [hk]
  refine wpList_make_full w1 rfl _ _ _ rfl w1.heap.size 33 i0 _ 1 Try.underlying22 hin hz0 hz1 .i64 .i64 (k : Int) (k : Int) k rfl rfl rfl rfl (by rw [hz2]; omega) (by unfold maxLen; omega) (Nat.le_refl _) ?_
  intro w2 hO hg2
  rw [made_zero] at hO
  have hb2 : Below w.heap.size w w2 := HB1.out.grown hg2 HB1.out.size (fun k e => by cases e)
  obtain ⟨rest, hA2, hl2, _, hm2, hg2'⟩ := at_of_own hO
  have hrest : rest = [] := by
    rw [List.length_append, Us_length, List.length_replicate, Nat.mul_one] at hl2
    exact List.eq_nil_of_length_eq_zero (by omega)
  subst hrest
  rw [List.append_nil] at hA2
  have HB2 := Lib.hid hb2
  have HB12 := Lib.hid HB1.out.size
  simp only [Act.put]
  go_wp2
  go_loopw [21] (fun i wr => ∃ j : Nat, j ≤ k ∧ i = .int .i64 j ∧ At wr w1.heap.size 33 (Us (List.replicate j vb ++ List.replicate (k - j) 0#32)) ∧ Below w.heap.size w wr) (fun i _ => k - (intOf i).toNat)
  case atStart => exact ⟨0, by omega, rfl, by simpa using hA2, hb2⟩
  case round =>
    clear hA2 hb2 hO
    obtain ⟨j, hj, rfl, hA, hB⟩ := hrel
    by_cases hlt : j < k
    · have hxk : j < (Us (List.replicate j vb ++ List.replicate (k - j) 0#32)).length := by rw [Us_length, List.length_append, List.length_replicate, List.length_replicate]; omega
      have k0 := hA.cell j
      have f0 := hA.frozen j
      rw [Us_get _ _ (by simpa [Us_length] using hxk)] at k0
      have A4 := hA.put j (.int .u32 (U vb))
      rw [Us_set, set_next k j vb hlt] at A4
      have HA4 := Lib.hid A4
      have HB4 := Lib.hid (hB.setCell (p := ⟨w1.heap.size, j, none⟩) HB12.out (.int .u32 (U vb)))
      have i0' : (0 : Int) ≤ (j : Int) := by omega
      have i1' : (j : Int) < (k : Int) := by omega
      clear A4 hA hB hxk
      go_wp2
      go_roundw
      case rel => exact ⟨j + 1, by omega, by go_num, HA4.out, HB4.out⟩
      case measure => simp [intOf]; omega
    · obtain rfl : j = k := by omega
      rw [Nat.sub_self, List.replicate_zero, List.append_nil] at hA
      have r3 := ReadsU.of_at (xs := List.replicate j vb) (rest := []) (cap := j) (by rw [List.append_nil]; exact hA) (by rw [List.append_nil, Us_length, List.length_replicate]) hm2
      rw [List.length_replicate] at r3
      have R3 := Lib.hid r3
      have HB3 := Lib.hid hB
      clear hA hB r3
      by_cases hz : j = 0
      · subst hz
        have hbad := scOf_bad (ws := List.replicate 0 vb) (by simp)
        have HBAD := Lib.hid hbad
        clear hbad
        go_wp2_with (go_at_call 10; (refine (swords_any _ _ _ _ _ R3.out).mono ?_); rintro e w4 ⟨B4, c4, rfl, hr, hb⟩; rw [HBAD.out]; dsimp only [List.length_nil]; have HB4 := Lib.hid (below_then HB3.out hb); clear hr hb)
        go_ret
        exact ⟨by simp, HB4.out⟩
      by_cases hg : j % 64 = 0
      · obtain ⟨m, hjm⟩ : ∃ m, j = 64 * m := ⟨j / 64, by omega⟩
        have m1 : 1 ≤ m := by omega
        have m2 : m ≤ 64 := by omega
        have SX := scOf_same j vb m hjm m1 m2
        have hbh := same_bad vb
        have hok := bkOf_ok (List.replicate 64 vb)
        obtain ⟨b, hb⟩ : ∃ b, b = bkOf (List.replicate 64 vb) := ⟨_, rfl⟩
        rw [← hb] at SX hbh hok
        have HSX := Lib.hid SX
        have HOK := Lib.hid hok
        have HL := Lib.hid (bk_len hok)
        have hj1 : ((j : Int) == 0) = false := by rw [beq_eq_false_iff_ne]; omega
        have hj2 : ((j : Int) % 64 != 0) = false := by rw [bne_eq_false_iff_eq]; omega
        have hj3 : (j : Int) / 64 = (m : Int) := by omega
        have hz43 := bk_zero
        have hbh' : (b.head == 1) = false := by rw [beq_eq_false_iff_ne]; exact hbh
        clear SX hok hb hbh hjm
        go_wp2_with (go_at_call 10; (refine (swords_any _ _ _ _ _ R3.out).mono ?_); rintro e w4 ⟨B4, c4, rfl, hr, hb⟩; rw [HSX.out] at hr ⊢; dsimp only at hr ⊢; rw [List.length_replicate] at hr ⊢; have HR4 := Lib.hid hr; have HB4 := Lib.hid (below_then HB3.out hb); clear hr hb)
        obtain ⟨g, off, rfl, hgl, hc⟩ := HR4.out.cell (by omega)
        have HGL := Lib.hid hgl
        have HC := Lib.hid (fun i (h : i < m) => hc i b (by rw [List.getElem?_replicate, if_pos h]))
        clear hgl hc
        go_loopw [50] (fun i wr => ∃ t : Nat, t ≤ m ∧ i = .int .i64 t ∧ Below w4.heap.size w4 wr) (fun i _ => m - (intOf i).toNat)
        case atStart => exact ⟨0, by omega, rfl, Below.refl _ _⟩
        case round =>
          obtain ⟨t, ht, rfl, hB5⟩ := hrel
          by_cases hlt2 : t < m
          · have hr0 : wr.rangeAt g off (bkC b) := by
              have := range_kept (HC.out 0 (by omega)) (hB5.block g HGL.out)
              rwa [Nat.zero_mul, Nat.add_zero] at this
            have hrt : wr.rangeAt g (off + t * 66) (bkC b) := range_kept (HC.out t hlt2) (hB5.block g HGL.out)
            have hgw : g < wr.heap.size := Nat.lt_of_lt_of_le HGL.out hB5.size
            have HR0 := Lib.hid hr0
            have HRT := Lib.hid hrt
            have HGW := Lib.hid hgw
            have HB5 := Lib.hid hB5
            have t0 : (0 : Int) ≤ (t : Int) := by omega
            have t1 : (t : Int) < (m : Int) := by omega
            have m0 : (0 : Int) < (m : Int) := by omega
            have m0' : 0 < m := by omega
            clear hr0 hrt hgw hB5
            go_wp2_with (first
              | (refine wpList_ldr _ rfl rfl rfl Try.underlying43 rfl bk_size HL.out HRT.out ?_)
              | (refine wpList_stm (pre := []) (post := []) (xs := bkC bk0) (ys := bkC b) _ _ rfl rfl rfl rfl bk_size (by rfl) HL.out (bk_one _) rfl (by simp) (At.news wr _ (bkC bk0)) ?_; intro V A3 T3; rw [List.nil_append, List.append_nil] at A3; have HA3 := Lib.hid A3; have HT3 := Lib.hid T3; clear A3 T3; refine halt_here ?_))
            refine Lib.hid ?_
            have hbV : Below wr.heap.size wr V := ((Below.refl _ wr).alloc (Nat.le_refl _) _).trans (HT3.out.below (fun k hk => by unfold Just at hk; omega) (by simp))
            have HBV := Lib.hid hbV
            have HB6 := Lib.hid (below_then HB5.out hbV)
            have c0 : ∀ W : World, W.heap = V.heap → W.cell? ⟨wr.heap.size, 0, none⟩ = some (.int .i64 b.head) := fun W hW => (World.cell?_of_block (a := ⟨wr.heap.size, 0, none⟩) (by rw [hW])).trans ((HA3.out.cell 0).trans (bk_head b))
            have l1 : ∀ W : World, W.heap = V.heap → (op_ex (ldB 43) (.pointer (some ⟨wr.heap.size, 0, none⟩)) W).choose = .ok (.value (.agg (bkC b).toArray)) W := fun W hW => ldS_at (range_heap HA3.out.rng hW) HL.out
            have l2 : ∀ W : World, W.heap = V.heap → (op_ex (ldB 43) (.pointer (some ⟨g, off, none⟩)) W).choose = .ok (.value (.agg (bkC b).toArray)) W := fun W hW => ldS_at (range_heap (range_kept HR0.out (HBV.out.block g HGW.out)) hW) HL.out
            have eq : ∀ W : World, (Op.equalIn 10000 43 (.agg (bkC b).toArray) (.agg (bkC b).toArray)).run Try.prog W = .ok true W := fun W => by rw [run_eq_blk 9994 HOK.out HOK.out W, decide_eq_true rfl]
            clear hbV
            go_wp2_with fail
            go_region_held3 (fun W => W.heap = V.heap) (first | assumption | rfl) (fail)
            have hh : Below w4.heap.size w4 V.drew := HB6.out.drew
            go_wp2
            go_roundw
            case rel => exact ⟨t + 1, by omega, by go_num, hh⟩
            case measure => simp [intOf]; omega
          · obtain rfl : t = m := by omega
            go_wp2
            go_ret
            exact ⟨by simp, below_then HB4.out hB5⟩
      · have hbad := scOf_bad (ws := List.replicate j vb) (by rw [List.length_replicate]; omega)
        have HBAD := Lib.hid hbad
        clear hbad
        have hj1 : ((j : Int) == 0) = false := by rw [beq_eq_false_iff_ne]; omega
        have hj2 : ((j : Int) % 64 != 0) = true := by rw [bne_iff_ne]; omega
        go_wp2_with (go_at_call 10; (refine (swords_any _ _ _ _ _ R3.out).mono ?_); rintro e w4 ⟨B4, c4, rfl, hr, hb⟩; rw [HBAD.out]; dsimp only [List.length_nil]; have HB4 := Lib.hid (below_then HB3.out hb); clear hr hb)
        go_ret
        exact ⟨by simp, HB4.out⟩
end Go.Proofs.Ytlbcebkllddhgaa
