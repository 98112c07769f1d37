/- The document's blocks of words, and the latest places of blocks: their rows are new (layers scan and latest, for layer ftl). -/
import Derived.Test.YtnfgpjfldgocaaaGreatLatRef
import Derived.Test.YtnfgpjfldgocaaaGreatScanRef
namespace Go.Proofs.YtnfgpjfldgocaaaGreat
open Go.RowKit Bm

theorem own_newB {w : World} {base m n k cap : Nat} {t : TypeId} {v : Value} {B : Option Addr} {xs : List Value} (h : w.ownsRow base t k v n xs) (e : v = .slice B m cap) : ∀ ad, B = some ad → base ≤ ad.block := by
  rintro ad rfl
  subst e
  rcases h.2 with ⟨e, _⟩ | ⟨g, cap', cur, e, hb, _⟩
  · cases e
  · simp only [Value.slice.injEq, Option.some.injEq] at e
    obtain ⟨rfl, _⟩ := e
    exact hb

set_option maxRecDepth 100000 in
set_option maxHeartbeats 2000000 in
theorem rwordsN_any (A : Option Addr) (n c : Nat) (ws : List (BitVec 32)) (w : World) (hA : ReadsU w A n c ws) : Calls Tryz.prog 29 #[.slice A n c] w fun e w' => ∃ B cap, e = .returned (.tuple #[.slice B (scOf ws).1.length cap, .int .i64 (scOf ws).2]) ∧ ReadsB w' B (scOf ws).1.length cap (scOf ws).1 ∧ (∀ ad, B = some ad → w.heap.size ≤ ad.block) ∧ Below w.heap.size w w' := by
  have hlen := hA.len
  have hle := hA.le
  have hmx := hA.max
  have hn0 : n ≤ 9223372036854775807 := by unfold maxLen at hmx; omega
  by_cases hg : n % 64 = 0 ∧ 1 ≤ n / 64 ∧ n / 64 ≤ 64
  · obtain ⟨m, rfl⟩ : ∃ m, n = 64 * m := ⟨n / 64, by omega⟩
    have m1 : 1 ≤ m := by omega
    have m2 : m ≤ 64 := by omega
    rw [scOf_good (hlen) m1 m2]
    rw [List.length_map, List.length_range]
    obtain ⟨ad, rfl, hlt, _⟩ := hA.cell (by omega)
    have HA := Lib.hid hA
    obtain ⟨i0, hin, hz0, hz1, hz2⟩ := info_parts rbk_infoA
    clear hA hg
    go_enter Tryz.func29, Tryz.ntmps29
    go_wp2
    go_loopw [5, 6] (fun o i wr => ∃ j : Nat, j ≤ m ∧ i = .int .i64 j ∧ wr.ownsRow w.heap.size 72 66 o j (bks (found ws (List.range j))) ∧ Below w.heap.size w wr) (fun _ i _ => m - (intOf i).toNat)
    case atStart => exact ⟨0, by omega, rfl, World.ownsRow_nil _ _ _ _, Below.refl _ _⟩
    case round =>
      obtain ⟨j, hj, rfl, ho, hB⟩ := hrel
      by_cases hltj : j < m
      · have i0' : (0 : Int) ≤ (j : Int) := by omega
        have i1' : (j : Int) < (m : Int) := by omega
        have RB := Lib.hid (rblock_any (ad.add (64 * j)) (c - 64 * j) (chunk ws j) _ ((HA.out.kept hB).sub (64 * j) 64 (c - 64 * j) (by omega) (by omega) (by omega)))
        have HO := Lib.hid ho
        have HB := Lib.hid hB
        have HL := Lib.hid (bk_len (bkOf_ok (chunk ws j)))
        clear ho hB
        go_wp2_with (first
          | (go_at_call 48; rw [show 64 * j + 64 - 64 * j = 64 by omega]; (with_reducible refine RB.out.mono ?_); rintro e V ⟨rfl, hb⟩; unfold bkV; have HOV := Lib.hid ((own_below HO.out hb).alloc (.cells (bkC (bkOf (chunk ws j))).toArray 72)); have HBV := Lib.hid (HB.out.trans (hb.mono HB.out.size)); clear hb)
          | (refine wpList_build_one _ rfl rfl rfl Tryz.underlying61 hin hz0 hz1 (cs := (bkC (bkOf (chunk ws j))).toArray) (by simpa using HL.out) (by omega) (by omega) ?_)
          | (at_builtin; refine halt_here ?_))
        refine Lib.hid ?_
        refine wpList_append_lies _ rfl _ _ _ rfl w.heap.size 72 i0 _ 66 304 Tryz.underlying61 hin hz0 hz1 hz2 (by show (bkC bk0).toArray.size = 66; simpa using bk_len bk0_ok) (by omega) _ j _ rfl HOV.out ⟨V.heap.size, 0, none⟩ 1 1 (bkC (bkOf (chunk ws j))) rfl (by rw [HL.out]) (At.news V _ _).news_at (bk_one _) (by omega) (by unfold maxLen; omega) (by omega) (by have := HBV.out.size; simp; omega) _ rfl ?_
        intro g cap w' h1 h2 h3 h4
        simp only [Act.put, List.setIfInBounds_toArray, List.set_cons_zero, List.set_cons_succ]
        have hB' : Below w.heap.size w w' := (HBV.out.alloc HBV.out.size (.cells (bkC (bkOf (chunk ws j))).toArray 72)).grown h2 (by have := HBV.out.size; simp; omega) (fun k hk => (HOV.out.lt k hk).1)
        go_wp2
        go_roundw
        case rel => exact ⟨j + 1, by omega, by go_num, by rw [List.range_succ, found_snoc, bks_snoc]; exact h1, hB'⟩
        case measure => simp [intOf]; omega
      · obtain rfl : j = m := by omega
        go_wp2
        obtain ⟨B, cap, e9, hR⟩ := ReadsB.of_own ho (found_ok _ _) (by rw [found_len, List.length_range])
        have hN := own_newB ho e9
        subst e9
        rw [found_len, List.length_range] at hR
        exact bodyPost_ret (results_tmp2 rfl _ _ _) rfl ⟨B, cap, by rw [found_len, List.length_range]; rfl, hR, hN, hB⟩
  · rw [scOf_bad (by rw [hlen]; exact hg)]
    have hn1 : (0 : Int) ≤ (n : Int) := by omega
    go_enter Tryz.func29, Tryz.ntmps29
    go_wp2
    all_goals first
      | (exfalso; omega)
      | exact bodyPost_ret (results_tmp2 rfl _ _ _) rfl ⟨none, 0, rfl, ReadsB.none w, (fun _ h => by cases h), Below.refl _ _⟩

set_option maxRecDepth 100000 in
set_option maxHeartbeats 4000000 in
theorem rputN_any (A : Option Addr) (n c : Nat) (xs : List PlM) (x : PlM) (w : World) (hA : ReadsL w A n c xs) (hn : n ≤ 10000) : Calls Tryz.prog 51 #[.slice A n c, plV x] w fun e w' => ∃ B cap, e = .returned (.slice B (lIns xs x).length cap) ∧ ReadsL w' B (lIns xs x).length cap (lIns xs x) ∧ (∀ ad, B = some ad → w.heap.size ≤ ad.block) ∧ Below w.heap.size w w' := by
  have HA := Lib.hid hA
  obtain ⟨i0, hin, hz0, hz1, hz2⟩ := info_parts rpl_infoA
  have hB0 : Below w.heap.size w (w.alloc (.cells (plC x).toArray 76)) := (Below.refl _ w).alloc (Nat.le_refl _) _
  have HX0 := Lib.hid (At.news w 76 (plC x))
  have HB0 := Lib.hid hB0
  clear hA hB0
  unfold plV
  go_enter Tryz.func51, Tryz.ntmps51
  go_upto_region 1 with fail
  obtain ⟨W0, hW0⟩ : ∃ W0, W0 = w.alloc (.cells (plC x).toArray 76) := ⟨_, rfl⟩
  rw [← hW0] at HX0 HB0
  have hs0 : W0.heap.size = w.heap.size + 1 := by rw [hW0]; simp
  change Code.wp _ _ _ _ (w.alloc (.cells (plC x).toArray 76))
  rw [← hW0]
  have HS0 := Lib.hid hs0
  clear hW0 hs0
  go_wp2
  go_loopg [5, 6, 7] n (fun g o d i wr => ∃ j : Nat, j ≤ n ∧ g = n - j ∧ i = .int .i64 j ∧ d = .bool (putA xs x j).2 ∧ wr.ownsRow W0.heap.size 76 9 o (putA xs x j).1.length (pls (putA xs x j).1) ∧ Below W0.heap.size W0 wr)
  case atStart => exact ⟨0, by omega, rfl, rfl, rfl, World.ownsRow_nil _ _ _ _, Below.refl _ _⟩
  case round =>
    obtain ⟨j, hj, rfl, rfl, rfl, ho, hB⟩ := hrel
    have hl := putA_len xs x j (by rw [HA.out.len]; exact hj)
    have HL : Hid ((putA xs x j).1.length ≤ 20000) := Lib.hid (by omega)
    have HO := Lib.hid ho
    have HB := Lib.hid hB
    have hx : At wr w.heap.size 76 (plC x) := HX0.out.kept (Turned.of_below hB (Nat.le_refl _) NoBlock) (fun h => h)
    have HX := Lib.hid hx
    clear ho hB hl
    by_cases hltj : j < n
    · have j0 : (0 : Int) ≤ (j : Int) := by omega
      have j1 : (j : Int) < (n : Int) := by omega
      have hsucc := putA_succ xs x j (by rw [HA.out.len]; exact hltj)
      obtain ⟨g, off, rfl, hg, hr⟩ := ((HA.out.kept HB0.out).kept HB.out).at_ hltj
      obtain ⟨y, hy⟩ : ∃ y, y = plN xs j := ⟨_, rfl⟩
      rw [← hy] at hr hsucc
      have HY := Lib.hid hy
      clear hy
      have HR := Lib.hid hr
      have HG := Lib.hid hg
      have xs2 : wr.cell? ⟨w.heap.size, 2, none⟩ = some (.int .u32 (U x.p.s)) := hx.cell 2
      have ys2 := (pl_cells hr).2.2.1
      have hgx : w.heap.size < W0.heap.size := by have := HS0.out; omega
      have KX : Hid (∀ W, Below W0.heap.size W0 W → At W w.heap.size 76 (plC x)) := Lib.hid (fun W hW => HX0.out.kept (Turned.of_below hW (Nat.le_refl _) NoBlock) (fun h => h))
      have KY : Hid (∀ W, Below W0.heap.size W0 W → W.rangeAt g (off + j * 9) (plC y)) := Lib.hid (fun W hW => by
        have h0 := (HA.out.kept HB0.out).at_ hltj
        obtain ⟨g', off', e, hg', hr'⟩ := h0
        simp only [Option.some.injEq, Addr.mk.injEq, and_true] at e
        obtain ⟨rfl, rfl⟩ := e
        rw [← HY.out] at hr'
        exact range_kept hr' (hW.block g hg'))
      have HSU := Lib.hid hsucc
      clear hr hsucc hx hg
      by_cases h1 : (putA xs x j).2 = false ∧ U x.p.s ≤ U y.p.s
      · have hd := h1.1
        have hle := h1.2
        have HSU1 := Lib.hid (HSU.out.trans (putS_yes h1))
        rw [hd]
        clear h1
        go_wp2_with fail
        go_quiet (fail)
        have hb1 : Below W0.heap.size W0 (wr.drewN nq) := HB.out.trans (below_drewN' _ _ _)
        have HB1 := Lib.hid hb1
        have HO1 := Lib.hid (own_below HO.out (below_drewN' _ wr nq))
        clear hb1
        go_wp2_with (first
          | (refine wpList_ldr _ rfl rfl rfl Tryz.underlying76 rfl rpl_size (plC_len _) (HX.out.drewN nq).rng ?_)
          | (refine wpList_build_one _ rfl rfl rfl Tryz.underlying64 hin hz0 hz1 (cs := (plC x).toArray) (by rfl) (by omega) (by omega) ?_)
          | (at_builtin; refine halt_here ?_))
        refine Lib.hid ?_
        refine wpList_appL (base := W0.heap.size) (xs := (putA xs x j).1) (y := x) Tryz.underlying64 hin hz0 hz1 hz2 (by rfl) _ _ (by rfl) (by rfl) (by rfl) (HO1.out.alloc _) (by rfl) (At.news (wr.drewN nq) _ _) (by have := HL.out; omega) (by have := HB1.out.size; simp at *; omega) ?_
        intro g1 cap1 w1 ho1 hg1 hbb1
        simp only [Act.put, List.setIfInBounds_toArray, List.set_cons_zero, List.set_cons_succ]
        obtain ⟨zs, hzs⟩ : ∃ zs, zs = (putA xs x j).1 ++ [x] := ⟨_, rfl⟩
        have HZL : Hid (zs.length ≤ 20001) := Lib.hid (by have := HL.out; rw [hzs, List.length_append, List.length_singleton]; omega)
        rw [← hzs] at ho1 HSU1 ⊢
        clear hzs
        have hb2 : Below W0.heap.size W0 w1 := (HB1.out.alloc HB1.out.size _).trans hbb1
        have HB2 := Lib.hid hb2
        have HO2 := Lib.hid ho1
        have xs3 : w1.cell? ⟨w.heap.size, 2, none⟩ = some (.int .u32 (U x.p.s)) := (KX.out w1 hb2).cell 2
        have ys3 := (pl_cells (KY.out w1 hb2)).2.2.1
        clear ho1 hg1 hbb1 hb2 xs2 ys2
        by_cases h2 : y.p.s ≠ x.p.s
        · have hne : (U y.p.s != U x.p.s) = true := by rw [bne_iff_ne]; exact fun e => h2 (U_inj e)
          have HSU2 := Lib.hid (HSU1.out.trans (if_pos h2))
          clear h2
          go_wp2_with fail
          go_quiet (fail)
          have HB3 := Lib.hid (HB2.out.trans (below_drewN' _ _ nq))
          have HO3 := Lib.hid (own_below HO2.out (below_drewN' _ w1 nq))
          go_wp2_with (first
            | (refine wpList_ldr _ rfl rfl rfl Tryz.underlying76 rfl rpl_size (plC_len _) (KY.out _ HB3.out) ?_)
            | (refine wpList_build_one _ rfl rfl rfl Tryz.underlying64 hin hz0 hz1 (cs := (plC y).toArray) (by rfl) (by omega) (by omega) ?_)
            | (at_builtin; refine halt_here ?_))
          refine Lib.hid ?_
          refine wpList_appL (base := W0.heap.size) (xs := zs) (y := y) Tryz.underlying64 hin hz0 hz1 hz2 (by rfl) _ _ (by rfl) (by rfl) (by rfl) (HO3.out.alloc _) (by rfl) (At.news (w1.drewN nq) _ _) (by have := HZL.out; omega) (by have := HB3.out.size; simp at *; omega) ?_
          intro g2 cap2 w2 ho2 hg2 hbb2
          simp only [Act.put, List.setIfInBounds_toArray, List.set_cons_zero, List.set_cons_succ]
          have HB4 := Lib.hid ((HB3.out.alloc HB3.out.size _).trans hbb2)
          have HO4 := Lib.hid ho2
          clear ho2 hg2 hbb2
          go_wp2
          go_roundg (n - (j + 1))
          case measure => go_light; omega
          case rel =>
            go_light
            exact ⟨j + 1, by omega, rfl, by go_num, by rw [HSU2.out], by rw [HSU2.out]; exact HO4.out, HB4.out⟩
        · have hne : (U y.p.s != U x.p.s) = false := by rw [bne_eq_false_iff_eq, Classical.not_not.1 h2]
          have HSU2 := Lib.hid (HSU1.out.trans (if_neg h2))
          clear h2
          go_wp2_with fail
          go_quiet (fail)
          have HB3 := Lib.hid (HB2.out.trans (below_drewN' _ _ nq))
          have HO3 := Lib.hid (own_below HO2.out (below_drewN' _ w1 nq))
          go_wp2
          go_roundg (n - (j + 1))
          case measure => go_light; omega
          case rel =>
            go_light
            exact ⟨j + 1, by omega, rfl, by go_num, by rw [HSU2.out], by rw [HSU2.out]; exact HO3.out, HB3.out⟩
      · have HSU1 := Lib.hid (HSU.out.trans (putS_no h1))
        have hq : (putA xs x j).2 = true ∨ ((putA xs x j).2 = false ∧ ¬ U x.p.s ≤ U y.p.s) := by
          cases hc : (putA xs x j).2
          · exact .inr ⟨rfl, fun h => h1 ⟨hc, h⟩⟩
          · exact .inl rfl
        clear h1
        rcases hq with hd | ⟨hd, hnle⟩ <;> rw [hd]
        all_goals
          go_wp2_with fail
          go_quiet (fail)
          have hb1 : Below W0.heap.size W0 (wr.drewN nq) := HB.out.trans (below_drewN' _ _ _)
          have HB1 := Lib.hid hb1
          have HO1 := Lib.hid (own_below HO.out (below_drewN' _ wr nq))
          obtain ⟨V1, hV1⟩ : ∃ V1, V1 = wr.drewN nq := ⟨_, rfl⟩
          rw [← hV1] at HB1 HO1 hb1
          have xs3 : V1.cell? ⟨w.heap.size, 2, none⟩ = some (.int .u32 (U x.p.s)) := (KX.out V1 hb1).cell 2
          have ys3 := (pl_cells (KY.out V1 hb1)).2.2.1
          rw [← hV1]
          clear hb1 hV1 xs2 ys2
          by_cases h2 : y.p.s ≠ x.p.s
          · have hne : (U y.p.s != U x.p.s) = true := by rw [bne_iff_ne]; exact fun e => h2 (U_inj e)
            have HSU2 := Lib.hid (HSU1.out.trans (if_pos h2))
            clear h2
            go_wp2_with fail
            go_quiet (fail)
            have HB3 := Lib.hid (HB1.out.trans (below_drewN' _ _ nq))
            have HO3 := Lib.hid (own_below HO1.out (below_drewN' _ V1 nq))
            go_wp2_with (first
              | (refine wpList_ldr _ rfl rfl rfl Tryz.underlying76 rfl rpl_size (plC_len _) (KY.out _ HB3.out) ?_)
              | (refine wpList_build_one _ rfl rfl rfl Tryz.underlying64 hin hz0 hz1 (cs := (plC y).toArray) (by rfl) (by omega) (by omega) ?_)
              | (at_builtin; refine halt_here ?_))
            refine Lib.hid ?_
            refine wpList_appL (base := W0.heap.size) (xs := (putA xs x j).1) (y := y) Tryz.underlying64 hin hz0 hz1 hz2 (by rfl) _ _ (by rfl) (by rfl) (by rfl) (HO3.out.alloc _) (by rfl) (At.news (V1.drewN nq) _ _) (by have := HL.out; omega) (by have := HB3.out.size; simp at *; omega) ?_
            intro g2 cap2 w2 ho2 hg2 hbb2
            simp only [Act.put, List.setIfInBounds_toArray, List.set_cons_zero, List.set_cons_succ]
            have HB4 := Lib.hid ((HB3.out.alloc HB3.out.size _).trans hbb2)
            have HO4 := Lib.hid ho2
            clear ho2 hg2 hbb2
            go_wp2
            go_roundg (n - (j + 1))
            case measure => go_light; omega
            case rel =>
              go_light
              exact ⟨j + 1, by omega, rfl, by go_num, by rw [HSU2.out]; simp only [hd], by rw [HSU2.out]; exact HO4.out, HB4.out⟩
          · have hne : (U y.p.s != U x.p.s) = false := by rw [bne_eq_false_iff_eq, Classical.not_not.1 h2]
            have HSU2 := Lib.hid (HSU1.out.trans (if_neg h2))
            clear h2
            go_wp2_with fail
            go_quiet (fail)
            have HB3 := Lib.hid (HB1.out.trans (below_drewN' _ _ nq))
            have HO3 := Lib.hid (own_below HO1.out (below_drewN' _ V1 nq))
            go_wp2
            go_roundg (n - (j + 1))
            case measure => go_light; omega
            case rel =>
              go_light
              exact ⟨j + 1, by omega, rfl, by go_num, by rw [HSU2.out, hd], by rw [HSU2.out]; exact HO3.out, HB3.out⟩
    · obtain rfl : j = n := by omega
      have he := putA_end xs x
      rw [HA.out.len] at he
      unfold putE at he
      cases hd : (putA xs x j).2
      · rw [hd, if_neg (by simp)] at he
        have HE := Lib.hid he
        clear he
        have HX1 := HX
        go_wp2_with (first
          | (refine wpList_ldr _ rfl rfl rfl Tryz.underlying76 rfl rpl_size (plC_len _) HX.out.rng ?_)
          | (refine wpList_build_one _ rfl rfl rfl Tryz.underlying64 hin hz0 hz1 (cs := (plC x).toArray) (by rfl) (by omega) (by omega) ?_)
          | (at_builtin; refine halt_here ?_))
        refine Lib.hid ?_
        refine wpList_appL (base := W0.heap.size) (xs := (putA xs x j).1) (y := x) Tryz.underlying64 hin hz0 hz1 hz2 (by rfl) _ _ (by rfl) (by rfl) (by rfl) (HO.out.alloc _) (by rfl) (At.news wr _ _) (by have := HL.out; omega) (by have := HB.out.size; simp at *; omega) ?_
        intro g2 cap2 w2 ho2 hg2 hbb2
        simp only [Act.put, List.setIfInBounds_toArray, List.set_cons_zero, List.set_cons_succ]
        rw [HE.out] at ho2 ⊢
        obtain ⟨B, cap, e, hR⟩ := ReadsL.of_own ho2 rfl
        have HN := Lib.hid (own_newB ho2 e)
        have HR2 := Lib.hid hR
        have HE2 := Lib.hid e
        have HB2 := Lib.hid (HB0.out.trans (((HB.out.alloc HB.out.size _).trans hbb2).mono HB0.out.size))
        clear ho2 hg2 hbb2 hR e
        go_wp2
        go_ret
        exact ⟨B, cap, congrArg Ending.returned HE2.out, HR2.out, fun ad h => by have h1 := HN.out ad h; have h2 := HS0.out; omega, HB2.out⟩
      · rw [hd, if_pos rfl] at he
        have HE := Lib.hid he
        clear he
        have ho := HO.out
        rw [HE.out] at ho
        obtain ⟨B, cap, e, hR⟩ := ReadsL.of_own ho rfl
        have HN := Lib.hid (own_newB ho e)
        have HR2 := Lib.hid hR
        have HE2 := Lib.hid e
        have HB2 := Lib.hid (HB0.out.trans (HB.out.mono HB0.out.size))
        clear ho hR e
        go_wp2
        go_ret
        exact ⟨B, cap, congrArg Ending.returned HE2.out, HR2.out, fun ad h => by have h1 := HN.out ad h; have h2 := HS0.out; omega, HB2.out⟩

set_option maxRecDepth 100000 in
set_option maxHeartbeats 4000000 in
theorem rlofN_any (A : Option Addr) (n c : Nat) (bs : List BlkM) (w : World) (hA : ReadsB w A n c bs) (hn : n ≤ 1000) : Calls Tryz.prog 31 #[.slice A n c] w fun e w' => ∃ B cap, e = .returned (.slice B (lOf (cnt bs)).length cap) ∧ ReadsL w' B (lOf (cnt bs)).length cap (lOf (cnt bs)) ∧ (∀ ad, B = some ad → w.heap.size ≤ ad.block) ∧ Below w.heap.size w w' := by
  have hz := rpl_zero
  have HC := Lib.hid (rcnt_any A n c bs w hA hn)
  have hl := cnt_len bs
  rw [hA.len] at hl
  obtain ⟨all, hall⟩ : ∃ all, all = cnt bs := ⟨_, rfl⟩
  rw [← hall] at HC hl ⊢
  have HLL : Hid (all.length ≤ 8000) := Lib.hid (by omega)
  obtain ⟨m, hm⟩ : ∃ m, m = all.length := ⟨_, rfl⟩
  rw [← hm] at HC
  have HM := Lib.hid hm
  clear hA hl hall hm
  go_enter Tryz.func31, Tryz.ntmps31
  go_wp2_with (go_at_call 50; (refine HC.out.mono ?_); rintro e w1 ⟨B1, cap1, rfl, hr, hb⟩; have HR1 := Lib.hid hr; have HB1 := Lib.hid hb; clear hr hb)
  go_loopg [4, 5] m (fun g o i wr => ∃ j : Nat, j ≤ m ∧ g = m - j ∧ i = .int .i64 j ∧ ∃ B cap, o = .slice B (ofA all j).length cap ∧ ReadsL wr B (ofA all j).length cap (ofA all j) ∧ (∀ ad, B = some ad → w.heap.size ≤ ad.block) ∧ Below w1.heap.size w1 wr)
  case atStart => exact ⟨0, by omega, rfl, rfl, none, 0, rfl, ReadsL.none _, (fun _ h => by cases h), Below.refl _ _⟩
  case round =>
    obtain ⟨j, hj, rfl, rfl, B, cap, rfl, hT, hN, hB⟩ := hrel
    have HNN := Lib.hid hN
    clear hN
    have HT := Lib.hid hT
    have HB := Lib.hid hB
    have HLJ := Lib.hid (ofA_len all j)
    have hmm : (m : Int) ≤ 8000 := by have := HM.out; have := HLL.out; omega
    clear hT hB
    by_cases hltj : j < m
    · have j0 : (0 : Int) ≤ (j : Int) := by omega
      have j1 : (j : Int) < (m : Int) := by omega
      have hsucc := ofA_succ all j (by rw [← HM.out]; exact hltj)
      obtain ⟨g, off, rfl, hg, hr⟩ := HR1.out.at_ hltj
      obtain ⟨y, hy⟩ : ∃ y, y = plN all j := ⟨_, rfl⟩
      rw [← hy] at hr hsucc
      have HR := Lib.hid hr
      have HG := Lib.hid hg
      have KY : Hid (∀ W, Below w1.heap.size w1 W → W.rangeAt g (off + j * 9) (plC y)) := Lib.hid (fun W hW => range_kept HR.out (hW.block g HG.out))
      have ys2 := (pl_cells (KY.out wr HB.out)).2.2.1
      have RF := rlfind_any B _ cap (ofA all j) y.p.s wr HT.out (by have := HLJ.out; omega)
      clear hr hg hy
      cases hf : lFind (ofA all j) y.p.s with
      | none =>
        rw [hf] at RF
        dsimp only [Option.getD, Option.isSome] at RF
        unfold plV at RF
        have HRF := Lib.hid RF
        have HSU : Hid (ofA all (j + 1) = lIns (ofA all j) y) := Lib.hid (hsucc.trans (by unfold ofS; rw [hf]))
        clear RF hsucc hf
        go_wp2_with (first
          | (go_at_call 34; (refine HRF.out.mono ?_); rintro e w2 ⟨rfl, hb⟩; have HB2 := Lib.hid (HB.out.trans (hb.mono HB.out.size)); have HT2 := Lib.hid (HT.out.kept hb); clear hb)
          | (refine wpList_stm (pre := []) (post := []) (xs := plC pl0) (ys := plC pl0) _ _ rfl rfl rfl rfl rpl_size (by rfl) (plC_len _) (plC_one _) rfl (by simp) (At.news w2 _ (plC pl0)) ?_; intro V A3 T3; rw [List.nil_append, List.append_nil] at A3; have HA3 := Lib.hid A3; have HT3 := Lib.hid T3; clear A3 T3))
        have hbV : Below w2.heap.size w2 V := ((Below.refl _ w2).alloc (Nat.le_refl _) _).trans (HT3.out.below (fun k hk => by unfold Just at hk; omega) (by simp))
        have HBV := Lib.hid (HB2.out.trans (hbV.mono HB2.out.size))
        have HTV := Lib.hid (HT2.out.kept hbV)
        clear hbV
        go_quiet (fail)
        have HB4 := Lib.hid (HBV.out.trans (below_drewN' _ _ nq))
        have RP := Lib.hid (rputN_any B _ cap (ofA all j) y (V.drewN nq) (HTV.out.kept (below_drewN' _ V nq)) (by have := HLJ.out; have := HLL.out; have := HM.out; omega))
        unfold plV at RP
        rw [← HSU.out] at RP
        go_wp2_with (first
          | (refine wpList_ldr _ rfl rfl rfl Tryz.underlying76 rfl rpl_size (plC_len _) (KY.out _ HB4.out) ?_)
          | (go_at_call 51; (refine RP.out.mono ?_); rintro e w5 ⟨B5, cap5, rfl, hr, hn5, hb⟩; have HN5 := Lib.hid hn5; clear hn5; have HR5 := Lib.hid hr; have HB5 := Lib.hid (HB4.out.trans (hb.mono HB4.out.size)); clear hr hb))
        go_roundg (m - (j + 1))
        case measure => go_light; omega
        case rel =>
          go_light
          exact ⟨j + 1, by omega, rfl, by go_num, B5, cap5, rfl, HR5.out, (fun ad h => by have h1 := HN5.out ad h; have h2 := HB4.out.size; have h3 := HB1.out.size; omega), HB5.out⟩
      | some o =>
        rw [hf] at RF
        dsimp only [Option.getD, Option.isSome] at RF
        unfold plV at RF
        have HRF := Lib.hid RF
        have HSU0 : Hid (ofA all (j + 1) = if U o.p.q < U y.p.q then lIns (ofA all j) y else ofA all j) := Lib.hid (hsucc.trans (by unfold ofS; rw [hf]))
        clear RF hsucc hf
        go_wp2_with (first
          | (go_at_call 34; (refine HRF.out.mono ?_); rintro e w2 ⟨rfl, hb⟩; have HB2 := Lib.hid (HB.out.trans (hb.mono HB.out.size)); have HT2 := Lib.hid (HT.out.kept hb); clear hb)
          | (refine wpList_stm (pre := []) (post := []) (xs := plC pl0) (ys := plC o) _ _ rfl rfl rfl rfl rpl_size (by rfl) (plC_len _) (plC_one _) rfl (by simp) (At.news w2 _ (plC pl0)) ?_; intro V A3 T3; rw [List.nil_append, List.append_nil] at A3; have HA3 := Lib.hid A3; have HT3 := Lib.hid T3; clear A3 T3))
        have hbV : Below w2.heap.size w2 V := ((Below.refl _ w2).alloc (Nat.le_refl _) _).trans (HT3.out.below (fun k hk => by unfold Just at hk; omega) (by simp))
        have HBV := Lib.hid (HB2.out.trans (hbV.mono HB2.out.size))
        have HTV := Lib.hid (HT2.out.kept hbV)
        have os3 : V.cell? ⟨w2.heap.size, 3, none⟩ = some (.int .u32 (U o.p.q)) := HA3.out.cell 3
        have ys3 := (pl_cells (KY.out V HBV.out)).2.2.2
        clear hbV ys2
        by_cases hq : U o.p.q < U y.p.q
        · have HSU := Lib.hid (HSU0.out.trans (if_pos hq))
          go_quiet (fail)
          have HB4 := Lib.hid (HBV.out.trans (below_drewN' _ _ nq))
          have RP := Lib.hid (rputN_any B _ cap (ofA all j) y (V.drewN nq) (HTV.out.kept (below_drewN' _ V nq)) (by have := HLJ.out; have := HLL.out; have := HM.out; omega))
          unfold plV at RP
          rw [← HSU.out] at RP
          go_wp2_with (first
            | (refine wpList_ldr _ rfl rfl rfl Tryz.underlying76 rfl rpl_size (plC_len _) (KY.out _ HB4.out) ?_)
            | (go_at_call 51; (refine RP.out.mono ?_); rintro e w5 ⟨B5, cap5, rfl, hr, hn5, hb⟩; have HN5 := Lib.hid hn5; clear hn5; have HR5 := Lib.hid hr; have HB5 := Lib.hid (HB4.out.trans (hb.mono HB4.out.size)); clear hr hb))
          go_roundg (m - (j + 1))
          case measure => go_light; omega
          case rel =>
            go_light
            exact ⟨j + 1, by omega, rfl, by go_num, B5, cap5, rfl, HR5.out, (fun ad h => by have h1 := HN5.out ad h; have h2 := HB4.out.size; have h3 := HB1.out.size; omega), HB5.out⟩
        · have HSU := Lib.hid (HSU0.out.trans (if_neg hq))
          go_quiet (fail)
          have HB4 := Lib.hid (HBV.out.trans (below_drewN' _ _ nq))
          have HT4 := Lib.hid (HTV.out.kept (below_drewN' _ V nq))
          go_wp2
          go_roundg (m - (j + 1))
          case measure => go_light; omega
          case rel =>
            go_light
            exact ⟨j + 1, by omega, rfl, by go_num, B, cap, by rw [HSU.out], by rw [HSU.out]; exact HT4.out, HNN.out, HB4.out⟩
    · obtain rfl : j = m := by omega
      have e : ofA all j = lOf all := by rw [HM.out]; exact ofA_all all
      have hT := HT.out
      rw [e] at hT ⊢
      have HTE := Lib.hid hT
      clear hT e
      go_wp2
      go_ret
      exact ⟨B, cap, rfl, HTE.out, HNN.out, HB1.out.trans (HB.out.mono HB1.out.size)⟩
end Go.Proofs.YtnfgpjfldgocaaaGreat
