/- The walk of LatestGreatest. -/
import Derived.Test.YtfpfcmgcfbkolaaLatHeld
import Derived.Deep.RegionWith
namespace Go.Proofs.Ytfpfcmgcfbkolaa
open Go.RowKit Bm

theorem ldQR_eq (ρ : Operand → Value) (d : Option Tmp) (x : Operand) (ty : TypeId) (pos : String) (af : Array Edge) (gd : Option (Nat × Bool)) (W : World) : (execOp ρ ⟨d, .load 46 x, ty, pos, af, gd⟩).run Try.prog W = (op_ex (ldB 46) (ρ x) W).choose := ldB_is _ ρ d x ty pos af gd W
theorem ldQP_eq (ρ : Operand → Value) (d : Option Tmp) (x : Operand) (ty : TypeId) (pos : String) (af : Array Edge) (gd : Option (Nat × Bool)) (W : World) : (execOp ρ ⟨d, .load 40 x, ty, pos, af, gd⟩).run Try.prog W = (op_ex (ldB 40) (ρ x) W).choose := ldB_is _ ρ d x ty pos af gd W
theorem ldQR_at {W : World} {g off : Nat} {p : PageM} (hc : W.rangeAt g off (pgC p)) : (op_ex (ldB 46) (.pointer (some ⟨g, off, none⟩)) W).choose = .ok (.value (.agg (pgC p).toArray)) W := ldN_at Try.underlying46 rfl Theirs.spg_size hc (pgC_len _)
theorem ldQP_at {W : World} {g off : Nat} {p : PageM} (hc : W.rangeAt g off (pgC p)) : (op_ex (ldB 40) (.pointer (some ⟨g, off, none⟩)) W).choose = .ok (.value (.agg (pgC p).toArray)) W := ldN_at Try.underlying40 rfl Theirs.dpg_size hc (pgC_len _)
theorem run_eq_pg (d : Nat) (p q : PageM) (w : World) : (Op.equalIn (d + 3) 46 (.agg (pgC p).toArray) (.agg (pgC q).toArray)).run Try.prog w = .ok (decide (p = q)) w := by
  rw [← pg_dec]
  exact run_eq_rpage d _ _ _ _ _ _ _ _ _ _ _ _ _ _ w
/-- The latest places are pages that count. -/
theorem of_atB {all : List PlM} {j : Nat} (hj : j < (lOf all).length) : best all (plN (lOf all) j).p.s = some (plN (lOf all) j) ∧ ∀ k, k < j → U (plN (lOf all) k).p.s < U (plN (lOf all) j).p.s := by
  have hr := of_rises all
  unfold Rises at hr
  rw [List.pairwise_iff_getElem] at hr
  have ej : plN (lOf all) j = (lOf all)[j] := by unfold plN; rw [List.getD_eq_getElem?_getD, List.getElem?_eq_getElem hj]; rfl
  have lt : ∀ k, k < j → U (plN (lOf all) k).p.s < U (plN (lOf all) j).p.s := fun k hk => by
    have h2 := hr k j (by omega) hj hk
    have ek : plN (lOf all) k = (lOf all)[k]'(by omega) := by unfold plN; rw [List.getD_eq_getElem?_getD, List.getElem?_eq_getElem (by omega)]; rfl
    rw [ek, ej]
    exact h2
  refine ⟨?_, lt⟩
  rw [← of_find]
  refine lFind_at hj (fun k hk e => ?_) rfl
  have := lt k hk
  rw [e] at this
  omega

section
attribute [local go_sem ↓] Go.wp_at_zero Go.wp_at_succ ldQR_eq ldQP_eq

set_option maxRecDepth 100000 in
set_option maxHeartbeats 2000000 in
theorem latestGreatest_walk (A : Option Addr) (n cap : Nat) (bs : List BlkM) (w : World) (hA : ReadsB w A n cap bs) : Calls Try.prog 5 #[.slice A n cap] w fun e w' => e = .returned (.bool true) ∧ Below w.heap.size w w' := by
  have hz := spl_zero
  have hz2 := Theirs.sbk_zero
  have hz3 := Theirs.spg_zero
  have HA := Lib.hid hA
  have hnm : (n : Int) ≤ 9223372036854775807 := by have := hA.le; have := hA.max; unfold maxLen at *; omega
  have AL := Lib.hid (alive7_any w)
  have HLN := Lib.hid hA.len
  clear hA
  by_cases hn : n ≤ 12
  · have hn' : (n : Int) ≤ 12 := by omega
    obtain ⟨T, hT⟩ : ∃ T : Int, T = U (lTop (cnt bs)) := ⟨_, rfl⟩
    have LT := Lib.hid (fun A c W (h : ReadsB W A n c bs) => ltop_any A n c bs W h (by omega))
    rw [← hT] at LT
    have HT := Lib.hid hT
    obtain ⟨L, hL⟩ : ∃ L, L = lOf (cnt bs) := ⟨_, rfl⟩
    have HLD := Lib.hid hL
    have HLL : Hid (L.length ≤ 1000) := Lib.hid (by rw [hL]; have := of_len (cnt bs); have := cnt_len bs; have := HLN.out; omega)
    have LO := Lib.hid (fun A c W (h : ReadsB W A n c bs) => lof_any A n c bs W h (by omega))
    rw [← hL] at LO
    clear hT hL
    go_enter Try.func5, Try.ntmps5
    go_wp2_with (first
      | (go_at_call 9; (refine AL.out.mono ?_); rintro e w1 ⟨rfl, hb⟩; have HB := Lib.hid hb; have HL := Lib.hid (HA.out.kept hb); clear hb)
      | (go_at_call 10; (refine (Theirs.any _ _ _ _ _ HL.out (by omega)).mono ?_); rintro e w2 ⟨B2, c2, rfl, hr, hb⟩; have HX := Lib.hid hr; have HL := Lib.hid (HL.out.kept hb); have HB := Lib.hid (below_then HB.out hb); clear hr hb)
      | (go_at_call 13; (refine (LO.out _ _ _ HX.out).mono ?_); rintro e V ⟨B3, c3, rfl, hr, hb⟩; have HP := Lib.hid hr; have HL := Lib.hid (HL.out.kept hb); have HB := Lib.hid (below_then HB.out hb); clear hr hb))
    have HLc : (L.length : Int) ≤ 1000 := by have := HLL.out; omega
    go_loopg [23] L.length (fun g i wr => ∃ j : Nat, j ≤ L.length ∧ g = L.length - j ∧ i = .int .i64 j ∧ Below V.heap.size V wr)
    case atStart => exact ⟨0, by omega, rfl, rfl, Below.refl _ _⟩
    case round =>
      obtain ⟨j, hj, rfl, rfl, hB⟩ := hrel
      have HBV := Lib.hid hB
      have HPV := Lib.hid (HP.out.kept hB)
      have HLV := Lib.hid (HL.out.kept hB)
      clear hB
      by_cases hlt : j < L.length
      · have j0 : (0 : Int) ≤ (j : Int) := by omega
        have j1 : (j : Int) < (L.length : Int) := by omega
        have hom := of_atB (all := cnt bs) (j := j) (by rw [← HLD.out]; exact hlt)
        rw [← HLD.out] at hom
        obtain ⟨hb1, _, _⟩ := best_some _ _ _ hom.1
        obtain ⟨b, i, hb, hi, hk, hx⟩ := mem_cnt.1 hb1
        have hlast := hom.2
        rw [HLN.out] at hb
        obtain ⟨p, hp⟩ : ∃ p, p = pgN (bkN bs b).pages i := ⟨_, rfl⟩
        obtain ⟨bi, hbi⟩ : ∃ bi : Int, bi = (b : Int) := ⟨_, rfl⟩
        obtain ⟨ii, hii⟩ : ∃ ii : Int, ii = (i : Int) := ⟨_, rfl⟩
        obtain ⟨g, off, rfl, hg, hr⟩ := HPV.out.at_ hlt
        obtain ⟨gA, offA, rfl, hgA, hrA⟩ := HLV.out.at_ hb
        have hok := HLV.out.okN hb
        rw [hx] at hr hlast
        rw [← hp, ← hbi, ← hii] at hr hlast
        have k0 : decide (bi < 0) = false := by rw [decide_eq_false_iff_not]; omega
        have k1 : decide ((n : Int) ≤ bi) = false := by rw [decide_eq_false_iff_not]; omega
        have k2 : decide (ii < 0) = false := by rw [decide_eq_false_iff_not]; omega
        have k3 : decide (7 < ii) = false := by rw [decide_eq_false_iff_not]; omega
        have b0 : 0 ≤ bi := by omega
        have b1 : bi < (n : Int) := by omega
        have bt : bi.toNat = b := by omega
        have i0 : 0 ≤ ii := by omega
        have i1 : ii < 8 := by omega
        have it : ii.toNat = i := by omega
        have HRR := Lib.hid hr
        have HLT := Lib.hid hlast
        have HRA := Lib.hid hrA
        have HGA := Lib.hid hgA
        have HOK := Lib.hid hok
        have HK := Lib.hid hk
        have HP0 := Lib.hid hp
        have HI := Lib.hid hi
        clear hom hb1 hx hp hbi hii hr hrA hg hgA hok hk hlast hi
        by_cases hj0 : 0 < j
        · obtain ⟨m, hm⟩ : ∃ m : Nat, m + 1 = j := ⟨j - 1, by omega⟩
          have HMJ := Lib.hid hm
          have hr2 := (HPV.out.at_ (j := m) (by omega))
          have lt : decide (U p.s ≤ U (plN L m).p.s) = false := by
            have := HLT.out m (by omega)
            rw [decide_eq_false_iff_not]
            simp only at this
            omega
          obtain ⟨g', off', e, _, hr2⟩ := hr2
          simp only [Option.some.injEq, Addr.mk.injEq, and_true] at e
          obtain ⟨rfl, rfl⟩ := e
          have HR2 := Lib.hid (pl_cells hr2).2.2.1
          have hw : IntKind.i64.wrap ((j : Int) - 1) = (m : Int) := by rw [IntKind.wrap_i64]; omega
          have m0 : (0 : Int) ≤ (m : Int) := by omega
          have m1 : (m : Int) < (L.length : Int) := by omega
          have d0 : decide (0 < j) = true := decide_eq_true hj0
          have d1 : decide (0 < (j : Int)) = true := decide_eq_true (by omega)
          clear hm hr2 hj0
          go_wp2_with (first
            | (refine wpList_ldr _ rfl rfl rfl Try.underlying42 rfl spl_size (plC_len _) HRR.out ?_)
            | (refine wpList_stm (ty := 42) (pre := []) (post := []) (xs := plC pl0) (ys := plC ⟨bi, ii, p⟩) _ _ rfl rfl rfl rfl spl_size (by rfl) (plC_len _) (plC_one _) rfl (by simp) (At.news wr _ (plC pl0)) ?_; intro V8 A8 T8; rw [List.nil_append, List.append_nil] at A8; have hb := ((Below.refl _ wr).alloc (Nat.le_refl _) (.cells (plC pl0).toArray 42)).trans (T8.below (fun k hk => by unfold Just at hk; omega) (by simp)); have y0 := A8.cell 0; have y1 := A8.cell 1; have y2 := A8.cell 2; rw [show (plC ⟨bi, ii, p⟩)[0]? = some (.int .i64 bi) from rfl] at y0; rw [show (plC ⟨bi, ii, p⟩)[1]? = some (.int .i64 ii) from rfl] at y1; rw [show (plC ⟨bi, ii, p⟩)[2]? = some (.int .u32 (U p.s)) from rfl] at y2; have HY8 := Lib.hid A8; have HB8 := Lib.hid hb; have z2 : V8.cell? ⟨g, off + m * 9 + 2, none⟩ = some (.int .u32 (U (plN L m).p.s)) := (World.cell?_of_block (a := ⟨g, off + m * 9 + 2, none⟩) (hb.block _ (by have := World.block_lt_of_cell? _ _ HR2.out; exact this))).trans HR2.out; clear A8 T8 hb))
          go_quiet (fail)
          obtain ⟨W9, hW9⟩ : ∃ W9, V8.drewN nq = W9 := ⟨_, rfl⟩
          have hb9 : Below wr.heap.size wr W9 := by rw [← hW9]; exact HB8.out.trans (below_drewN' _ _ nq)
          have HY9 : Hid (At W9 wr.heap.size 42 (plC ⟨bi, ii, p⟩)) := Lib.hid (by rw [← hW9]; exact HY8.out.drewN nq)
          rw [hW9]
          have HB9 := Lib.hid hb9
          clear hW9 hb9 y0 y1 y2 k0 k1 k2 k3 z2 lt hw d0 d1 m0 m1
          have y0 := HY9.out.cell 0
          have y1 := HY9.out.cell 1
          rw [show (plC ⟨bi, ii, p⟩)[0]? = some (.int .i64 bi) from rfl] at y0
          rw [show (plC ⟨bi, ii, p⟩)[1]? = some (.int .i64 ii) from rfl] at y1
          go_wp2_with (first
            | (refine wpList_ldr _ rfl rfl rfl Try.underlying55 rfl Theirs.sbk_size (bk_len HOK.out) (range_kept HRA.out (HB9.out.block _ HGA.out)) ?_)
            | (refine wpList_stm (ty := 55) (pre := []) (post := []) (xs := bkC bk0) (ys := bkC (bkN bs b)) _ _ rfl rfl rfl rfl Theirs.sbk_size (by rfl) (bk_len HOK.out) (bk_one _) rfl (by simp) (At.news W9 _ (bkC bk0)) ?_; intro V11 A8 T8; rw [List.nil_append, List.append_nil] at A8; clear y0 y1; have hb := ((Below.refl _ W9).alloc (Nat.le_refl _) (.cells (bkC bk0).toArray 55)).trans (T8.below (fun k hk => by unfold Just at hk; omega) (by simp)); have HB11 := Lib.hid (below_then HB9.out hb); have HA11 := Lib.hid A8; have HY11 := Lib.hid (HY9.out.kept (Turned.of_below hb (Nat.le_refl _) NoBlock) (fun h => h)); clear A8 T8 hb))
          have y1 : ∀ W : World, W.heap = V11.heap → W.cell? ⟨wr.heap.size, 1, none⟩ = some (.int .i64 ii) := fun W hW => (World.cell?_of_block (a := ⟨wr.heap.size, 1, none⟩) (by rw [hW])).trans (HY11.out.cell 1)
          have kc : ∀ W : World, W.heap = V11.heap → W.cell? ⟨W9.heap.size, 2 + i, none⟩ = some (.int .i64 1) := fun W hW => (World.cell?_of_block (a := ⟨W9.heap.size, 2 + i, none⟩) (by rw [hW])).trans ((HA11.out.cell (2 + i)).trans ((bk_kind HOK.out i HI.out).trans (by rw [HK.out])))
          have l81 : ∀ W : World, W.heap = V11.heap → (op_ex (ldB 46) (.pointer (some ⟨W9.heap.size, 10 + i * 7, none⟩)) W).choose = .ok (.value (.agg (pgC p).toArray)) W := fun W hW => ldQR_at (range_heap (by have := bk_page_range HOK.out HA11.out.rng i HI.out; rw [← HP0.out, Nat.zero_add] at this; exact this) hW)
          have l83 : ∀ W : World, W.heap = V11.heap → (op_ex (ldB 40) (.pointer (some ⟨wr.heap.size, 2, none⟩)) W).choose = .ok (.value (.agg (pgC p).toArray)) W := fun W hW => ldQP_at (range_heap (by have := pl_page_range HY11.out.rng; rw [Nat.zero_add] at this; exact this) hW)
          have eq : ∀ W : World, (Op.equalIn 10000 46 (.agg (pgC p).toArray) (.agg (pgC p).toArray)).run Try.prog W = .ok true W := fun W => by rw [run_eq_pg 9997 p p W, decide_eq_true rfl]
          go_region_held3 (fun W => W.heap = V11.heap) (first | assumption | rfl) (fail)
          have HB12 := Lib.hid (HB11.out.trans ((Below.refl wr.heap.size V11).drew))
          go_wp2
          go_roundg (L.length - (j + 1))
          case measure => go_light; omega
          case rel =>
            go_light
            exact ⟨j + 1, by omega, rfl, by go_num, below_then HBV.out HB12.out⟩
        · have d0 : decide (0 < j) = false := decide_eq_false hj0
          have d1 : decide (0 < (j : Int)) = false := decide_eq_false (by omega)
          clear hj0
          go_wp2_with (first
            | (refine wpList_ldr _ rfl rfl rfl Try.underlying42 rfl spl_size (plC_len _) HRR.out ?_)
            | (refine wpList_stm (ty := 42) (pre := []) (post := []) (xs := plC pl0) (ys := plC ⟨bi, ii, p⟩) _ _ rfl rfl rfl rfl spl_size (by rfl) (plC_len _) (plC_one _) rfl (by simp) (At.news wr _ (plC pl0)) ?_; intro V8 A8 T8; rw [List.nil_append, List.append_nil] at A8; have hb := ((Below.refl _ wr).alloc (Nat.le_refl _) (.cells (plC pl0).toArray 42)).trans (T8.below (fun k hk => by unfold Just at hk; omega) (by simp)); have y0 := A8.cell 0; have y1 := A8.cell 1; have y2 := A8.cell 2; rw [show (plC ⟨bi, ii, p⟩)[0]? = some (.int .i64 bi) from rfl] at y0; rw [show (plC ⟨bi, ii, p⟩)[1]? = some (.int .i64 ii) from rfl] at y1; rw [show (plC ⟨bi, ii, p⟩)[2]? = some (.int .u32 (U p.s)) from rfl] at y2; have HY8 := Lib.hid A8; have HB8 := Lib.hid hb; clear A8 T8 hb))
          go_quiet (fail)
          obtain ⟨W9, hW9⟩ : ∃ W9, V8.drewN nq = W9 := ⟨_, rfl⟩
          have hb9 : Below wr.heap.size wr W9 := by rw [← hW9]; exact HB8.out.trans (below_drewN' _ _ nq)
          have HY9 : Hid (At W9 wr.heap.size 42 (plC ⟨bi, ii, p⟩)) := Lib.hid (by rw [← hW9]; exact HY8.out.drewN nq)
          rw [hW9]
          have HB9 := Lib.hid hb9
          clear hW9 hb9 y0 y1 y2 k0 k1 k2 k3 d0 d1
          have y0 := HY9.out.cell 0
          have y1 := HY9.out.cell 1
          rw [show (plC ⟨bi, ii, p⟩)[0]? = some (.int .i64 bi) from rfl] at y0
          rw [show (plC ⟨bi, ii, p⟩)[1]? = some (.int .i64 ii) from rfl] at y1
          go_wp2_with (first
            | (refine wpList_ldr _ rfl rfl rfl Try.underlying55 rfl Theirs.sbk_size (bk_len HOK.out) (range_kept HRA.out (HB9.out.block _ HGA.out)) ?_)
            | (refine wpList_stm (ty := 55) (pre := []) (post := []) (xs := bkC bk0) (ys := bkC (bkN bs b)) _ _ rfl rfl rfl rfl Theirs.sbk_size (by rfl) (bk_len HOK.out) (bk_one _) rfl (by simp) (At.news W9 _ (bkC bk0)) ?_; intro V11 A8 T8; rw [List.nil_append, List.append_nil] at A8; clear y0 y1; have hb := ((Below.refl _ W9).alloc (Nat.le_refl _) (.cells (bkC bk0).toArray 55)).trans (T8.below (fun k hk => by unfold Just at hk; omega) (by simp)); have HB11 := Lib.hid (below_then HB9.out hb); have HA11 := Lib.hid A8; have HY11 := Lib.hid (HY9.out.kept (Turned.of_below hb (Nat.le_refl _) NoBlock) (fun h => h)); clear A8 T8 hb))
          have y1 : ∀ W : World, W.heap = V11.heap → W.cell? ⟨wr.heap.size, 1, none⟩ = some (.int .i64 ii) := fun W hW => (World.cell?_of_block (a := ⟨wr.heap.size, 1, none⟩) (by rw [hW])).trans (HY11.out.cell 1)
          have kc : ∀ W : World, W.heap = V11.heap → W.cell? ⟨W9.heap.size, 2 + i, none⟩ = some (.int .i64 1) := fun W hW => (World.cell?_of_block (a := ⟨W9.heap.size, 2 + i, none⟩) (by rw [hW])).trans ((HA11.out.cell (2 + i)).trans ((bk_kind HOK.out i HI.out).trans (by rw [HK.out])))
          have l81 : ∀ W : World, W.heap = V11.heap → (op_ex (ldB 46) (.pointer (some ⟨W9.heap.size, 10 + i * 7, none⟩)) W).choose = .ok (.value (.agg (pgC p).toArray)) W := fun W hW => ldQR_at (range_heap (by have := bk_page_range HOK.out HA11.out.rng i HI.out; rw [← HP0.out, Nat.zero_add] at this; exact this) hW)
          have l83 : ∀ W : World, W.heap = V11.heap → (op_ex (ldB 40) (.pointer (some ⟨wr.heap.size, 2, none⟩)) W).choose = .ok (.value (.agg (pgC p).toArray)) W := fun W hW => ldQP_at (range_heap (by have := pl_page_range HY11.out.rng; rw [Nat.zero_add] at this; exact this) hW)
          have eq : ∀ W : World, (Op.equalIn 10000 46 (.agg (pgC p).toArray) (.agg (pgC p).toArray)).run Try.prog W = .ok true W := fun W => by rw [run_eq_pg 9997 p p W, decide_eq_true rfl]
          go_region_held3 (fun W => W.heap = V11.heap) (first | assumption | rfl) (fail)
          have HB12 := Lib.hid (HB11.out.trans ((Below.refl wr.heap.size V11).drew))
          go_wp2
          go_roundg (L.length - (j + 1))
          case measure => go_light; omega
          case rel =>
            go_light
            exact ⟨j + 1, by omega, rfl, by go_num, below_then HBV.out HB12.out⟩
      · obtain rfl : j = L.length := by omega
        have HBV := Lib.hid (HBV.out)
        go_wp2
        go_loopg [89] n (fun g i wr2 => ∃ j : Nat, j ≤ n ∧ g = n - j ∧ i = .int .i64 j ∧ Below V.heap.size V wr2)
        case atStart => exact ⟨0, by omega, rfl, rfl, HBV.out⟩
        case round =>
          clear HPV HLV HBV
          rename World => wr2
          obtain ⟨j, hj, rfl, rfl, hB⟩ := hrel
          have HBV := Lib.hid hB
          have HPV := Lib.hid (HP.out.kept hB)
          have HLV := Lib.hid (HL.out.kept hB)
          clear hB
          by_cases hlt : j < n
          · have j0 : (0 : Int) ≤ (j : Int) := by omega
            have j1 : (j : Int) < (n : Int) := by omega
            obtain ⟨gA, offA, rfl, hgA, hrA⟩ := HLV.out.at_ hlt
            have hok := HLV.out.okN hlt
            obtain ⟨b, hb⟩ : ∃ b, b = bkN bs j := ⟨_, rfl⟩
            rw [← hb] at hrA hok
            have HRA := Lib.hid hrA
            have HGA := Lib.hid hgA
            have HOK := Lib.hid hok
            have HBE := Lib.hid hb
            clear hrA hgA hok hb
            go_wp2_with (first
              | (refine wpList_ldr _ rfl rfl rfl Try.underlying55 rfl Theirs.sbk_size (bk_len HOK.out) HRA.out ?_)
              | (refine wpList_stm (ty := 55) (pre := []) (post := []) (xs := bkC bk0) (ys := bkC b) _ _ rfl rfl rfl rfl Theirs.sbk_size (by rfl) (bk_len HOK.out) (bk_one _) rfl (by simp) (At.news wr2 _ (bkC bk0)) ?_; intro V17 A8 T8; rw [List.nil_append, List.append_nil] at A8; have hb := ((Below.refl _ wr2).alloc (Nat.le_refl _) (.cells (bkC bk0).toArray 55)).trans (T8.below (fun k hk => by unfold Just at hk; omega) (by simp)); have HB17 := Lib.hid hb; have HA17 := Lib.hid A8; clear A8 T8 hb)
              | (refine wpList_ldr _ rfl rfl rfl Try.underlying53 rfl Theirs.pages_size (by rw [pgs_len, HOK.out.p]) (by have := Theirs.bk_pages_range HOK.out HA17.out.rng; rw [Nat.zero_add] at this; exact this) ?_))
            go_loopg [95] 8 (fun g i wp => ∃ t : Nat, t ≤ 8 ∧ g = 8 - t ∧ i = .int .i64 t ∧ Below V17.heap.size V17 wp)
            case atStart => exact ⟨0, by omega, rfl, rfl, Below.refl _ _⟩
            case round =>
              rename World => wp
              obtain ⟨t, ht, rfl, rfl, hB⟩ := hrel
              have HB18 := Lib.hid hB
              have HPW := Lib.hid ((HPV.out.kept HB17.out).kept hB)
              have HLW := Lib.hid ((HLV.out.kept HB17.out).kept hB)
              have HA18 := Lib.hid (HA17.out.kept (Turned.of_below hB (Nat.le_refl _) NoBlock) (fun h => h))
              clear hB
              by_cases hlt8 : t < 8
              · have t0 : (0 : Int) ≤ (t : Int) := by omega
                have t1 : (t : Int) < 8 := by omega
                obtain ⟨p, hp⟩ : ∃ p, p = pgN b.pages t := ⟨_, rfl⟩
                by_cases hk : nm b.kinds t = 1
                · have hy1 : (⟨(j : Int), (t : Int), p⟩ : PlM) ∈ cnt bs := by
                    rw [hp, HBE.out]
                    exact mem_cnt.2 ⟨j, t, by rw [HLN.out]; exact hlt, hlt8, by rw [← HBE.out]; exact hk, rfl⟩
                  have hz9 : ∃ z, lFind L p.s = some z ∧ U p.q ≤ U z.p.q := by
                    rw [HLD.out, of_find]
                    cases hbest : best (cnt bs) p.s with
                    | none => exact absurd rfl ((best_none _ _).1 hbest _ hy1)
                    | some z => exact ⟨z, rfl, (best_some _ _ z hbest).2.2 _ hy1 rfl⟩
                  obtain ⟨z, hz9, hle⟩ := hz9
                  have htop : U p.q ≤ T := by rw [HT.out]; exact top_ge (cnt bs) _ hy1
                  obtain ⟨pq, hpq⟩ : ∃ x : Int, x = U p.q := ⟨_, rfl⟩
                  obtain ⟨zq, hzq⟩ : ∃ x : Int, x = U z.p.q := ⟨_, rfl⟩
                  have e1 : decide (zq < pq) = false := by rw [decide_eq_false_iff_not]; omega
                  have e2 : decide (T < pq) = false := by rw [decide_eq_false_iff_not]; omega
                  have LF := fun A c W (h : ReadsL W A L.length c L) => lfind_any A L.length c L p.s W h (by have := HLL.out; omega)
                  rw [hz9] at LF
                  dsimp only [Option.getD, Option.isSome] at LF
                  unfold plV at LF
                  have HLF := Lib.hid LF
                  have HK := Lib.hid hk
                  have HPE := Lib.hid hp
                  have HPQ := Lib.hid hpq
                  have HZQ := Lib.hid hzq
                  clear LF hk hp hpq hzq hz9 hle htop hy1
                  go_wp2_with (first
                    | (refine Theirs.wpList_index _ _ b.pages t rfl rfl rfl rfl HOK.out.p hlt8 ?_; rw [← HPE.out])
                    | (refine wpList_stm (ty := 46) (pre := []) (post := []) (xs := pgC pg0) (ys := pgC p) _ _ rfl rfl rfl rfl Theirs.spg_size (by rfl) (pgC_len _) (pgC_one _) rfl (by simp) (At.news wp _ (pgC pg0)) ?_; intro V20 A8 T8; rw [List.nil_append, List.append_nil] at A8; have hb := ((Below.refl _ wp).alloc (Nat.le_refl _) (.cells (pgC pg0).toArray 46)).trans (T8.below (fun k hk => by unfold Just at hk; omega) (by simp)); have HB20 := Lib.hid hb; have HA20 := Lib.hid A8; have kc := ((HA18.out.kept (Turned.of_below hb (Nat.le_refl _) NoBlock) (fun h => h)).cell (2 + t)).trans ((bk_kind HOK.out t hlt8).trans (by rw [HK.out])); have f0 := A8.cell 0; rw [show (pgC p)[0]? = some (.int .u32 (U p.s)) from rfl] at f0; clear A8 T8 hb)
                    | (go_at_call 19; (refine (HLF.out _ _ _ (HPW.out.kept HB20.out)).mono ?_); rintro e w22 ⟨rfl, hb⟩; clear kc f0; have HB22 := Lib.hid hb; clear hb)
                    | (refine wpList_stm (ty := 42) (pre := []) (post := []) (xs := plC pl0) (ys := plC z) _ _ rfl rfl rfl rfl spl_size (by rfl) (plC_len _) (plC_one _) rfl (by simp) (At.news w22 _ (plC pl0)) ?_; intro V22 A8 T8; rw [List.nil_append, List.append_nil] at A8; have hb := ((Below.refl _ w22).alloc (Nat.le_refl _) (.cells (plC pl0).toArray 42)).trans (T8.below (fun k hk => by unfold Just at hk; omega) (by simp)); have HA22 := Lib.hid A8; have HB23 := Lib.hid (HB22.out.trans (hb.mono HB22.out.size)); clear A8 T8 hb))
                  have hbig : Below wp.heap.size wp V22 := HB20.out.trans (HB23.out.mono HB20.out.size)
                  have HLX := Lib.hid (HLW.out.kept hbig)
                  have HBX := Lib.hid hbig
                  have HA21 := Lib.hid (HA20.out.kept (Turned.of_below HB23.out (Nat.le_refl _) NoBlock) (fun h => h))
                  clear hbig
                  go_cut [128] (fun s wx => s = .bool false ∧ Below V22.heap.size V22 wx)
                  case first =>
                    have c3 : ∀ W : World, Below V22.heap.size V22 W → W.cell? ⟨w22.heap.size, 3, none⟩ = some (.int .u32 zq) := fun W hW => by
                      have h := (World.cell?_of_block (a := ⟨w22.heap.size, 3, none⟩) (hW.block _ HA22.out.lt)).trans (HA22.out.cell 3)
                      rw [HZQ.out]
                      exact h
                    have c1 : ∀ W : World, Below V22.heap.size V22 W → W.cell? ⟨wp.heap.size, 1, none⟩ = some (.int .u32 pq) := fun W hW => by
                      have h := (World.cell?_of_block (a := ⟨wp.heap.size, 1, none⟩) (hW.block _ HA21.out.lt)).trans (HA21.out.cell 1)
                      rw [HPQ.out]
                      exact h
                    have S0 : Below V22.heap.size V22 V22 := Below.refl _ _
                    have S1 : Below V22.heap.size V22 V22.drew := S0.drew
                    go_region_with (first
                      | (go_at_call 10; (refine (Theirs.any _ _ _ _ _ (HLX.out.kept S1) (by omega)).mono ?_); rintro e w24 ⟨B4, c4, rfl, hr, hb⟩; have HX4 := Lib.hid hr; have S2 : Below V22.heap.size V22 w24 := S1.trans (hb.mono S1.size); clear hr hb)
                      | (go_at_call 17; (refine (LT.out _ _ _ HX4.out).mono ?_); rintro e w25 ⟨rfl, hb⟩; have S3 : Below V22.heap.size V22 w25 := S2.trans (hb.mono S2.size); clear hb))
                    all_goals
                      go_wp2_with fail
                      go_meet
                      exact ⟨rfl, by assumption⟩
                  case rest =>
                    obtain ⟨rfl, hbw⟩ := hcut
                    have HBW := Lib.hid hbw
                    clear hbw
                    go_wp2
                    go_roundg (8 - (t + 1))
                    case measure => go_light; omega
                    case rel =>
                      go_light
                      exact ⟨t + 1, by omega, rfl, by go_num, below_then HB18.out (below_then HBX.out HBW.out)⟩
                · have hk' : (nm b.kinds t != 1) = true := by rw [bne_iff_ne]; exact hk
                  have HPE := Lib.hid hp
                  clear hk hp
                  go_wp2_with (first
                    | (refine Theirs.wpList_index _ _ b.pages t rfl rfl rfl rfl HOK.out.p hlt8 ?_; rw [← HPE.out])
                    | (refine wpList_stm (ty := 46) (pre := []) (post := []) (xs := pgC pg0) (ys := pgC p) _ _ rfl rfl rfl rfl Theirs.spg_size (by rfl) (pgC_len _) (pgC_one _) rfl (by simp) (At.news wp _ (pgC pg0)) ?_; intro V20 A8 T8; rw [List.nil_append, List.append_nil] at A8; have hb := ((Below.refl _ wp).alloc (Nat.le_refl _) (.cells (pgC pg0).toArray 46)).trans (T8.below (fun k hk => by unfold Just at hk; omega) (by simp)); have HB20 := Lib.hid hb; have kc := ((HA18.out.kept (Turned.of_below hb (Nat.le_refl _) NoBlock) (fun h => h)).cell (2 + t)).trans (bk_kind HOK.out t hlt8); clear A8 T8 hb))
                  go_roundg (8 - (t + 1))
                  case measure => go_light; omega
                  case rel =>
                    go_light
                    exact ⟨t + 1, by omega, rfl, by go_num, below_then HB18.out HB20.out⟩
              · obtain rfl : t = 8 := by omega
                go_wp2
                go_roundg (n - (j + 1))
                case measure => go_light; omega
                case rel =>
                  go_light
                  exact ⟨j + 1, by omega, rfl, by go_num, below_then HBV.out (below_then HB17.out HB18.out)⟩
          · obtain rfl : j = n := by omega
            go_wp2
            go_ret
            exact ⟨rfl, below_then HB.out HBV.out⟩
  · have hn' : ¬ (n : Int) ≤ 12 := by omega
    go_enter Try.func5, Try.ntmps5
    go_wp2_with (go_at_call 9; (refine AL.out.mono ?_); rintro e w1 ⟨rfl, hb⟩; have HB1 := Lib.hid hb; clear hb)
    go_ret
    exact ⟨rfl, HB1.out⟩
end
end Go.Proofs.Ytfpfcmgcfbkolaa
