/- Contracts of the document's answers for layer latest: Find, counts. | Contracts of the document's answers for layer latest: counts. | Contracts of the document's answers for layer latest: put. | Contracts of the document's answers for layer latest: Of, Top. | Contracts of the document's answers for layer latest: needed, Needed. | Contracts of the document's answers for layer latest: Needed, Same. | Contracts of the document's Same, and of the helpers ours and theirs (layer latest). -/
import Derived.Test.YtnfgpjfldgocaaaGreatLatTools
namespace Go.Proofs.YtnfgpjfldgocaaaGreat
open Go.RowKit Bm

set_option maxRecDepth 100000 in
set_option maxHeartbeats 2000000 in
theorem rlfind_any (A : Option Addr) (n c : Nat) (xs : List PlM) (s : BitVec 32) (w : World) (hA : ReadsL w A n c xs) (hn : n ≤ 1000000) : Calls Tryz.prog 34 #[.slice A n c, .int .u32 (U s)] w fun e w' => e = .returned (.tuple #[plV ((lFind xs s).getD pl0), .bool (lFind xs s).isSome]) ∧ Below w.heap.size w w' := by
  have hz := rpl_zero
  have HA := Lib.hid hA
  have hB0 : Below w.heap.size w (w.alloc (.cells (plC pl0).toArray 76)) := (Below.refl _ w).alloc (Nat.le_refl _) _
  have HA0 := Lib.hid (At.news w 76 (plC pl0))
  have HB0 := Lib.hid hB0
  clear hA hB0
  go_enter Tryz.func34, Tryz.ntmps34
  go_wp2
  go_loopw [6] (fun i wr => ∃ j : Nat, j ≤ n ∧ i = .int .i64 j ∧ wr = w.alloc (.cells (plC pl0).toArray 76) ∧ ∀ k, k < j → (plN xs k).p.s ≠ s) (fun i _ => n - (intOf i).toNat)
  case atStart => exact ⟨0, by omega, rfl, rfl, fun k h => absurd h (by omega)⟩
  case round =>
    obtain ⟨j, hj, rfl, rfl, hs⟩ := hrel
    have HS := Lib.hid hs
    clear hs
    by_cases hlt : j < n
    · obtain ⟨g, off, rfl, hg, hr⟩ := (HA.out.kept HB0.out).at_ hlt
      have HR := Lib.hid hr
      have c2 := (pl_cells hr).2.2.1
      have i0 : (0 : Int) ≤ (j : Int) := by omega
      have i1 : (j : Int) < (n : Int) := by omega
      clear hr
      by_cases he : (plN xs j).p.s = s
      · have hf := lFind_at (by rw [HA.out.len]; exact hlt) HS.out he
        rw [he] at c2
        have HF := Lib.hid hf
        clear hf he
        go_wp2_with (first
          | (refine wpList_ldr _ rfl rfl rfl Tryz.underlying76 rfl rpl_size (plC_len _) HR.out ?_)
          | (refine wpList_stm (pre := []) (post := []) (xs := plC pl0) (ys := plC (plN xs j)) _ _ rfl rfl rfl rfl rpl_size (by rfl) (plC_len _) (plC_one _) rfl (by simp) HA0.out ?_; intro V A3 T3; rw [List.nil_append, List.append_nil] at A3; have HA3 := Lib.hid A3; have HT3 := Lib.hid T3; clear A3 T3))
        refine bodyPost_ret (rpl_res2 Tryz.results34 _ rfl rfl HA3.out) rfl ⟨?_, HB0.out.trans (HT3.out.below (fun k hk => by unfold Just at hk; omega) (by simp))⟩
        rw [HF.out]
        rfl
      · have hu : ¬ U (plN xs j).p.s = U s := fun h => he (U_inj h)
        have HE := Lib.hid he
        have hu' : (U (plN xs j).p.s == U s) = false := by rw [beq_eq_false_iff_ne]; exact hu
        clear he hu
        go_wp2
        go_roundw
        case rel => exact ⟨j + 1, by omega, by go_num, trivial, fun k hk => by
          by_cases e : k = j
          · rw [e]; exact HE.out
          · exact HS.out k (by omega)⟩
        case measure => simp [intOf]; omega
    · obtain rfl : j = n := by omega
      have hf := lFind_no (xs := xs) (s := s) (fun k hk => HS.out k (by rw [← HA.out.len]; exact hk))
      have HF := Lib.hid hf
      clear hf
      go_wp2_with (first
        | (refine wpList_stm (pre := []) (post := []) (xs := plC pl0) (ys := plC pl0) _ _ rfl rfl rfl rfl rpl_size (by rfl) (plC_len _) (plC_one _) rfl (by simp) HA0.out ?_; intro V A3 T3; rw [List.nil_append, List.append_nil] at A3; have HA3 := Lib.hid A3; have HT3 := Lib.hid T3; clear A3 T3))
      refine bodyPost_ret (rpl_res2 Tryz.results34 _ rfl rfl HA3.out) rfl ⟨?_, HB0.out.trans (HT3.out.below (fun k hk => by unfold Just at hk; omega) (by simp))⟩
      rw [HF.out]
      rfl
end Go.Proofs.YtnfgpjfldgocaaaGreat

namespace Go.Proofs.YtnfgpjfldgocaaaGreat
open Go.RowKit Bm

set_option maxRecDepth 100000 in
set_option maxHeartbeats 4000000 in
theorem rcnt_any (A : Option Addr) (n c : Nat) (bs : List BlkM) (w : World) (hA : ReadsB w A n c bs) (hn : n ≤ 1000) : Calls Tryz.prog 50 #[.slice A n c] w fun e w' => ∃ B cap, e = .returned (.slice B (cnt bs).length cap) ∧ ReadsL w' B (cnt bs).length cap (cnt bs) ∧ Below w.heap.size w w' := by
  have HA := Lib.hid hA
  obtain ⟨i0, hin, hz0, hz1, hz2⟩ := info_parts rpl_infoA
  clear hA
  go_enter Tryz.func50, Tryz.ntmps50
  go_wp2
  go_loopg [3, 4] n (fun g o i wr => ∃ j : Nat, j ≤ n ∧ g = n - j ∧ i = .int .i64 j ∧ wr.ownsRow w.heap.size 76 9 o (cntU bs j).length (pls (cntU bs j)) ∧ Below w.heap.size w wr)
  case atStart => exact ⟨0, by omega, rfl, rfl, World.ownsRow_nil _ _ _ _, Below.refl _ _⟩
  case round =>
    obtain ⟨j, hj, rfl, rfl, ho, hB⟩ := hrel
    have HO := Lib.hid ho
    have HB := Lib.hid hB
    clear ho hB
    by_cases hltj : j < n
    · have j0 : (0 : Int) ≤ (j : Int) := by omega
      have j1 : (j : Int) < (n : Int) := by omega
      obtain ⟨g, off, rfl, hg, hr⟩ := HA.out.at_ hltj
      have HOK := Lib.hid (HA.out.okN hltj)
      obtain ⟨b, hb⟩ : ∃ b, b = bkN bs j := ⟨_, rfl⟩
      have HBE := Lib.hid hb
      rw [← hb] at hr HOK
      have HR := Lib.hid hr
      have HG := Lib.hid hg
      clear hr hg hb
      go_wp2
      go_loopg [3, 5] 8 (fun g' o i wq => ∃ t : Nat, t ≤ 8 ∧ g' = 8 - t ∧ i = .int .i64 t ∧ wq.ownsRow w.heap.size 76 9 o (cntU bs j ++ cntB bs j t).length (pls (cntU bs j ++ cntB bs j t)) ∧ Below w.heap.size w wq)
      case atStart => exact ⟨0, by omega, rfl, rfl, by rw [show cntB bs j 0 = [] from rfl, List.append_nil]; exact HO.out, HB.out⟩
      case round =>
        obtain ⟨t, ht, rfl, rfl, ho3, hB3⟩ := hrel
        have HO3 := Lib.hid ho3
        have HB3 := Lib.hid hB3
        clear ho3 hB3
        by_cases hlt : t < 8
        · have t0 : (0 : Int) ≤ (t : Int) := by omega
          have t1 : (t : Int) < 8 := by omega
          have hrw := range_kept HR.out (HB3.out.block g HG.out)
          have HRW := Lib.hid hrw
          have c0 := hrw (2 + t) _ (bk_kind HOK.out t hlt)
          rw [← Nat.add_assoc] at c0
          have hlen := cntU_len bs j
          have hlen2 := cntB_len bs j t
          have HLEN : Hid ((cntU bs j ++ cntB bs j t).length ≤ 8008) := Lib.hid (by rw [List.length_append]; omega)
          clear hrw hlen hlen2
          by_cases hk : nm b.kinds t = 1
          · rw [hk] at c0
            have hn1 : cntU bs j ++ cntB bs j (t + 1) = (cntU bs j ++ cntB bs j t) ++ [⟨j, t, pgN b.pages t⟩] := by
              rw [cntB_succ, ← HBE.out, if_pos hk, List.append_assoc]
            have HN1 := Lib.hid hn1
            clear hn1 hk
            go_wp2_with (first
              | (refine wpList_ldr _ rfl rfl rfl Tryz.underlying69 rfl rpg_sizeB (pgC_len _) (bk_page_range HOK.out HRW.out t hlt) ?_)
              | (refine wpList_bpl (run_rbuild _ _ _) _ _ _ rfl rfl rfl rfl rfl ?_)
              | (refine wpList_build_one _ rfl rfl rfl Tryz.underlying64 hin hz0 hz1 (cs := (plC ⟨j, t, pgN b.pages t⟩).toArray) (by rfl) (by omega) (by omega) ?_)
              | (at_builtin; refine halt_here ?_))
            refine Lib.hid ?_
            refine wpList_appL (base := w.heap.size) (xs := cntU bs j ++ cntB bs j t) (y := ⟨j, t, pgN b.pages t⟩) Tryz.underlying64 hin hz0 hz1 hz2 (by rfl) _ _ (by rfl) (by rfl) (by rfl) (HO3.out.alloc _) (by rfl) (At.news wr _ _) (by have := HLEN.out; omega) (by have := HB3.out.size; simp; omega) ?_
            intro g' cap w' h1 h2 h3
            simp only [Act.put, List.setIfInBounds_toArray, List.set_cons_zero, List.set_cons_succ]
            have hB' : Below w.heap.size w w' := (HB3.out.alloc HB3.out.size (.cells (plC ⟨j, t, pgN b.pages t⟩).toArray 76)).grown h2 (by have := HB3.out.size; simp; omega) (fun k hk => (HO3.out.lt k hk).1)
            go_wp2
            go_roundg (8 - (t + 1))
            case measure => go_light; omega
            case rel =>
              go_light
              exact ⟨t + 1, by omega, rfl, by go_num, by rw [HN1.out]; exact h1, hB'⟩
          · have hk' : (nm b.kinds t == 1) = false := by rw [beq_eq_false_iff_ne]; exact hk
            have hn1 : cntU bs j ++ cntB bs j (t + 1) = cntU bs j ++ cntB bs j t := by
              rw [cntB_succ, ← HBE.out, if_neg hk, List.append_nil]
            have HN1 := Lib.hid hn1
            clear hn1
            go_wp2
            go_roundg (8 - (t + 1))
            case measure => go_light; omega
            case rel =>
              go_light
              exact ⟨t + 1, by omega, rfl, by go_num, by rw [HN1.out]; exact HO3.out, HB3.out⟩
        · obtain rfl : t = 8 := by omega
          go_wp2
          go_roundg (n - (j + 1))
          case measure => go_light; omega
          case rel =>
            go_light
            exact ⟨j + 1, by omega, rfl, by go_num, by rw [cntU_succ]; exact HO3.out, HB3.out⟩
    · obtain rfl : j = n := by omega
      go_wp2
      have ho := HO.out
      have e : cntU bs j = cnt bs := by unfold cnt; rw [HA.out.len]
      rw [e] at ho
      obtain ⟨B, cap, rfl, hR⟩ := ReadsL.of_own ho rfl
      go_ret
      exact ⟨B, cap, rfl, hR, HB.out⟩
end Go.Proofs.YtnfgpjfldgocaaaGreat

namespace Go.Proofs.YtnfgpjfldgocaaaGreat
open Go.RowKit Bm

/-- Places, done or not, behind the first j ones. -/
def putA (xs : List PlM) (x : PlM) (j : Nat) : List PlM × Bool := (xs.take j).foldl (putS x) ([], false)
theorem putA_succ (xs : List PlM) (x : PlM) (j : Nat) (h : j < xs.length) : putA xs x (j + 1) = putS x (putA xs x j) (plN xs j) := fold_step _ _ _ _ h
theorem putS_len (x : PlM) (a : List PlM × Bool) (y : PlM) : (putS x a y).1.length ≤ a.1.length + 2 := by
  unfold putS
  by_cases h1 : a.2 = false ∧ U x.p.s ≤ U y.p.s <;> by_cases h2 : y.p.s ≠ x.p.s <;> simp [h1, h2]
theorem putA_len (xs : List PlM) (x : PlM) : ∀ j, j ≤ xs.length → (putA xs x j).1.length ≤ 2 * j
  | 0, _ => by unfold putA; simp
  | j + 1, h => by
    rw [putA_succ xs x j (by omega)]
    have := putA_len xs x j (by omega)
    have := putS_len x (putA xs x j) (plN xs j)
    omega
theorem putA_end (xs : List PlM) (x : PlM) : putE x (putA xs x xs.length) = lIns xs x := by
  unfold putA
  rw [List.take_length, putS_all]
  rfl
theorem putS_yes {x : PlM} {a : List PlM × Bool} {y : PlM} (h : a.2 = false ∧ U x.p.s ≤ U y.p.s) : putS x a y = if y.p.s ≠ x.p.s then (a.1 ++ [x] ++ [y], true) else (a.1 ++ [x], true) := by
  unfold putS
  simp only [h, and_self, if_true]
theorem putS_no {x : PlM} {a : List PlM × Bool} {y : PlM} (h : ¬ (a.2 = false ∧ U x.p.s ≤ U y.p.s)) : putS x a y = if y.p.s ≠ x.p.s then (a.1 ++ [y], a.2) else a := by
  unfold putS
  simp only [if_neg h]

set_option maxRecDepth 100000 in
set_option maxHeartbeats 4000000 in
theorem rput_any (A : Option Addr) (n c : Nat) (xs : List PlM) (x : PlM) (w : World) (hA : ReadsL w A n c xs) (hn : n ≤ 10000) : Calls Tryz.prog 51 #[.slice A n c, plV x] w fun e w' => ∃ B cap, e = .returned (.slice B (lIns xs x).length cap) ∧ ReadsL w' B (lIns xs x).length cap (lIns xs x) ∧ Below w.heap.size w w' := by
  have HA := Lib.hid hA
  obtain ⟨i0, hin, hz0, hz1, hz2⟩ := info_parts rpl_infoA
  have hB0 : Below w.heap.size w (w.alloc (.cells (plC x).toArray 76)) := (Below.refl _ w).alloc (Nat.le_refl _) _
  have HX0 := Lib.hid (At.news w 76 (plC x))
  have HB0 := Lib.hid hB0
  clear hA hB0
  unfold plV
  go_enter Tryz.func51, Tryz.ntmps51
  go_upto_region 1 with fail
  obtain ⟨W0, hW0⟩ : ∃ W0, W0 = w.alloc (.cells (plC x).toArray 76) := ⟨_, rfl⟩
  rw [← hW0] at HX0 HB0
  have hs0 : W0.heap.size = w.heap.size + 1 := by rw [hW0]; simp
  change Code.wp _ _ _ _ (w.alloc (.cells (plC x).toArray 76))
  rw [← hW0]
  have HS0 := Lib.hid hs0
  clear hW0 hs0
  go_wp2
  go_loopg [5, 6, 7] n (fun g o d i wr => ∃ j : Nat, j ≤ n ∧ g = n - j ∧ i = .int .i64 j ∧ d = .bool (putA xs x j).2 ∧ wr.ownsRow W0.heap.size 76 9 o (putA xs x j).1.length (pls (putA xs x j).1) ∧ Below W0.heap.size W0 wr)
  case atStart => exact ⟨0, by omega, rfl, rfl, rfl, World.ownsRow_nil _ _ _ _, Below.refl _ _⟩
  case round =>
    obtain ⟨j, hj, rfl, rfl, rfl, ho, hB⟩ := hrel
    have hl := putA_len xs x j (by rw [HA.out.len]; exact hj)
    have HL : Hid ((putA xs x j).1.length ≤ 20000) := Lib.hid (by omega)
    have HO := Lib.hid ho
    have HB := Lib.hid hB
    have hx : At wr w.heap.size 76 (plC x) := HX0.out.kept (Turned.of_below hB (Nat.le_refl _) NoBlock) (fun h => h)
    have HX := Lib.hid hx
    clear ho hB hl
    by_cases hltj : j < n
    · have j0 : (0 : Int) ≤ (j : Int) := by omega
      have j1 : (j : Int) < (n : Int) := by omega
      have hsucc := putA_succ xs x j (by rw [HA.out.len]; exact hltj)
      obtain ⟨g, off, rfl, hg, hr⟩ := ((HA.out.kept HB0.out).kept HB.out).at_ hltj
      obtain ⟨y, hy⟩ : ∃ y, y = plN xs j := ⟨_, rfl⟩
      rw [← hy] at hr hsucc
      have HY := Lib.hid hy
      clear hy
      have HR := Lib.hid hr
      have HG := Lib.hid hg
      have xs2 : wr.cell? ⟨w.heap.size, 2, none⟩ = some (.int .u32 (U x.p.s)) := hx.cell 2
      have ys2 := (pl_cells hr).2.2.1
      have hgx : w.heap.size < W0.heap.size := by have := HS0.out; omega
      have KX : Hid (∀ W, Below W0.heap.size W0 W → At W w.heap.size 76 (plC x)) := Lib.hid (fun W hW => HX0.out.kept (Turned.of_below hW (Nat.le_refl _) NoBlock) (fun h => h))
      have KY : Hid (∀ W, Below W0.heap.size W0 W → W.rangeAt g (off + j * 9) (plC y)) := Lib.hid (fun W hW => by
        have h0 := (HA.out.kept HB0.out).at_ hltj
        obtain ⟨g', off', e, hg', hr'⟩ := h0
        simp only [Option.some.injEq, Addr.mk.injEq, and_true] at e
        obtain ⟨rfl, rfl⟩ := e
        rw [← HY.out] at hr'
        exact range_kept hr' (hW.block g hg'))
      have HSU := Lib.hid hsucc
      clear hr hsucc hx hg
      by_cases h1 : (putA xs x j).2 = false ∧ U x.p.s ≤ U y.p.s
      · have hd := h1.1
        have hle := h1.2
        have HSU1 := Lib.hid (HSU.out.trans (putS_yes h1))
        rw [hd]
        clear h1
        go_wp2_with fail
        go_quiet (fail)
        have hb1 : Below W0.heap.size W0 (wr.drewN nq) := HB.out.trans (below_drewN' _ _ _)
        have HB1 := Lib.hid hb1
        have HO1 := Lib.hid (own_below HO.out (below_drewN' _ wr nq))
        clear hb1
        go_wp2_with (first
          | (refine wpList_ldr _ rfl rfl rfl Tryz.underlying76 rfl rpl_size (plC_len _) (HX.out.drewN nq).rng ?_)
          | (refine wpList_build_one _ rfl rfl rfl Tryz.underlying64 hin hz0 hz1 (cs := (plC x).toArray) (by rfl) (by omega) (by omega) ?_)
          | (at_builtin; refine halt_here ?_))
        refine Lib.hid ?_
        refine wpList_appL (base := W0.heap.size) (xs := (putA xs x j).1) (y := x) Tryz.underlying64 hin hz0 hz1 hz2 (by rfl) _ _ (by rfl) (by rfl) (by rfl) (HO1.out.alloc _) (by rfl) (At.news (wr.drewN nq) _ _) (by have := HL.out; omega) (by have := HB1.out.size; simp at *; omega) ?_
        intro g1 cap1 w1 ho1 hg1 hbb1
        simp only [Act.put, List.setIfInBounds_toArray, List.set_cons_zero, List.set_cons_succ]
        obtain ⟨zs, hzs⟩ : ∃ zs, zs = (putA xs x j).1 ++ [x] := ⟨_, rfl⟩
        have HZL : Hid (zs.length ≤ 20001) := Lib.hid (by have := HL.out; rw [hzs, List.length_append, List.length_singleton]; omega)
        rw [← hzs] at ho1 HSU1 ⊢
        clear hzs
        have hb2 : Below W0.heap.size W0 w1 := (HB1.out.alloc HB1.out.size _).trans hbb1
        have HB2 := Lib.hid hb2
        have HO2 := Lib.hid ho1
        have xs3 : w1.cell? ⟨w.heap.size, 2, none⟩ = some (.int .u32 (U x.p.s)) := (KX.out w1 hb2).cell 2
        have ys3 := (pl_cells (KY.out w1 hb2)).2.2.1
        clear ho1 hg1 hbb1 hb2 xs2 ys2
        by_cases h2 : y.p.s ≠ x.p.s
        · have hne : (U y.p.s != U x.p.s) = true := by rw [bne_iff_ne]; exact fun e => h2 (U_inj e)
          have HSU2 := Lib.hid (HSU1.out.trans (if_pos h2))
          clear h2
          go_wp2_with fail
          go_quiet (fail)
          have HB3 := Lib.hid (HB2.out.trans (below_drewN' _ _ nq))
          have HO3 := Lib.hid (own_below HO2.out (below_drewN' _ w1 nq))
          go_wp2_with (first
            | (refine wpList_ldr _ rfl rfl rfl Tryz.underlying76 rfl rpl_size (plC_len _) (KY.out _ HB3.out) ?_)
            | (refine wpList_build_one _ rfl rfl rfl Tryz.underlying64 hin hz0 hz1 (cs := (plC y).toArray) (by rfl) (by omega) (by omega) ?_)
            | (at_builtin; refine halt_here ?_))
          refine Lib.hid ?_
          refine wpList_appL (base := W0.heap.size) (xs := zs) (y := y) Tryz.underlying64 hin hz0 hz1 hz2 (by rfl) _ _ (by rfl) (by rfl) (by rfl) (HO3.out.alloc _) (by rfl) (At.news (w1.drewN nq) _ _) (by have := HZL.out; omega) (by have := HB3.out.size; simp at *; omega) ?_
          intro g2 cap2 w2 ho2 hg2 hbb2
          simp only [Act.put, List.setIfInBounds_toArray, List.set_cons_zero, List.set_cons_succ]
          have HB4 := Lib.hid ((HB3.out.alloc HB3.out.size _).trans hbb2)
          have HO4 := Lib.hid ho2
          clear ho2 hg2 hbb2
          go_wp2
          go_roundg (n - (j + 1))
          case measure => go_light; omega
          case rel =>
            go_light
            exact ⟨j + 1, by omega, rfl, by go_num, by rw [HSU2.out], by rw [HSU2.out]; exact HO4.out, HB4.out⟩
        · have hne : (U y.p.s != U x.p.s) = false := by rw [bne_eq_false_iff_eq, Classical.not_not.1 h2]
          have HSU2 := Lib.hid (HSU1.out.trans (if_neg h2))
          clear h2
          go_wp2_with fail
          go_quiet (fail)
          have HB3 := Lib.hid (HB2.out.trans (below_drewN' _ _ nq))
          have HO3 := Lib.hid (own_below HO2.out (below_drewN' _ w1 nq))
          go_wp2
          go_roundg (n - (j + 1))
          case measure => go_light; omega
          case rel =>
            go_light
            exact ⟨j + 1, by omega, rfl, by go_num, by rw [HSU2.out], by rw [HSU2.out]; exact HO3.out, HB3.out⟩
      · have HSU1 := Lib.hid (HSU.out.trans (putS_no h1))
        have hq : (putA xs x j).2 = true ∨ ((putA xs x j).2 = false ∧ ¬ U x.p.s ≤ U y.p.s) := by
          cases hc : (putA xs x j).2
          · exact .inr ⟨rfl, fun h => h1 ⟨hc, h⟩⟩
          · exact .inl rfl
        clear h1
        rcases hq with hd | ⟨hd, hnle⟩ <;> rw [hd]
        all_goals
          go_wp2_with fail
          go_quiet (fail)
          have hb1 : Below W0.heap.size W0 (wr.drewN nq) := HB.out.trans (below_drewN' _ _ _)
          have HB1 := Lib.hid hb1
          have HO1 := Lib.hid (own_below HO.out (below_drewN' _ wr nq))
          obtain ⟨V1, hV1⟩ : ∃ V1, V1 = wr.drewN nq := ⟨_, rfl⟩
          rw [← hV1] at HB1 HO1 hb1
          have xs3 : V1.cell? ⟨w.heap.size, 2, none⟩ = some (.int .u32 (U x.p.s)) := (KX.out V1 hb1).cell 2
          have ys3 := (pl_cells (KY.out V1 hb1)).2.2.1
          rw [← hV1]
          clear hb1 hV1 xs2 ys2
          by_cases h2 : y.p.s ≠ x.p.s
          · have hne : (U y.p.s != U x.p.s) = true := by rw [bne_iff_ne]; exact fun e => h2 (U_inj e)
            have HSU2 := Lib.hid (HSU1.out.trans (if_pos h2))
            clear h2
            go_wp2_with fail
            go_quiet (fail)
            have HB3 := Lib.hid (HB1.out.trans (below_drewN' _ _ nq))
            have HO3 := Lib.hid (own_below HO1.out (below_drewN' _ V1 nq))
            go_wp2_with (first
              | (refine wpList_ldr _ rfl rfl rfl Tryz.underlying76 rfl rpl_size (plC_len _) (KY.out _ HB3.out) ?_)
              | (refine wpList_build_one _ rfl rfl rfl Tryz.underlying64 hin hz0 hz1 (cs := (plC y).toArray) (by rfl) (by omega) (by omega) ?_)
              | (at_builtin; refine halt_here ?_))
            refine Lib.hid ?_
            refine wpList_appL (base := W0.heap.size) (xs := (putA xs x j).1) (y := y) Tryz.underlying64 hin hz0 hz1 hz2 (by rfl) _ _ (by rfl) (by rfl) (by rfl) (HO3.out.alloc _) (by rfl) (At.news (V1.drewN nq) _ _) (by have := HL.out; omega) (by have := HB3.out.size; simp at *; omega) ?_
            intro g2 cap2 w2 ho2 hg2 hbb2
            simp only [Act.put, List.setIfInBounds_toArray, List.set_cons_zero, List.set_cons_succ]
            have HB4 := Lib.hid ((HB3.out.alloc HB3.out.size _).trans hbb2)
            have HO4 := Lib.hid ho2
            clear ho2 hg2 hbb2
            go_wp2
            go_roundg (n - (j + 1))
            case measure => go_light; omega
            case rel =>
              go_light
              exact ⟨j + 1, by omega, rfl, by go_num, by rw [HSU2.out]; simp only [hd], by rw [HSU2.out]; exact HO4.out, HB4.out⟩
          · have hne : (U y.p.s != U x.p.s) = false := by rw [bne_eq_false_iff_eq, Classical.not_not.1 h2]
            have HSU2 := Lib.hid (HSU1.out.trans (if_neg h2))
            clear h2
            go_wp2_with fail
            go_quiet (fail)
            have HB3 := Lib.hid (HB1.out.trans (below_drewN' _ _ nq))
            have HO3 := Lib.hid (own_below HO1.out (below_drewN' _ V1 nq))
            go_wp2
            go_roundg (n - (j + 1))
            case measure => go_light; omega
            case rel =>
              go_light
              exact ⟨j + 1, by omega, rfl, by go_num, by rw [HSU2.out, hd], by rw [HSU2.out]; exact HO3.out, HB3.out⟩
    · obtain rfl : j = n := by omega
      have he := putA_end xs x
      rw [HA.out.len] at he
      unfold putE at he
      cases hd : (putA xs x j).2
      · rw [hd, if_neg (by simp)] at he
        have HE := Lib.hid he
        clear he
        have HX1 := HX
        go_wp2_with (first
          | (refine wpList_ldr _ rfl rfl rfl Tryz.underlying76 rfl rpl_size (plC_len _) HX.out.rng ?_)
          | (refine wpList_build_one _ rfl rfl rfl Tryz.underlying64 hin hz0 hz1 (cs := (plC x).toArray) (by rfl) (by omega) (by omega) ?_)
          | (at_builtin; refine halt_here ?_))
        refine Lib.hid ?_
        refine wpList_appL (base := W0.heap.size) (xs := (putA xs x j).1) (y := x) Tryz.underlying64 hin hz0 hz1 hz2 (by rfl) _ _ (by rfl) (by rfl) (by rfl) (HO.out.alloc _) (by rfl) (At.news wr _ _) (by have := HL.out; omega) (by have := HB.out.size; simp at *; omega) ?_
        intro g2 cap2 w2 ho2 hg2 hbb2
        simp only [Act.put, List.setIfInBounds_toArray, List.set_cons_zero, List.set_cons_succ]
        rw [HE.out] at ho2 ⊢
        obtain ⟨B, cap, e, hR⟩ := ReadsL.of_own ho2 rfl
        have HR2 := Lib.hid hR
        have HE2 := Lib.hid e
        have HB2 := Lib.hid (HB0.out.trans (((HB.out.alloc HB.out.size _).trans hbb2).mono HB0.out.size))
        clear ho2 hg2 hbb2 hR e
        go_wp2
        go_ret
        exact ⟨B, cap, congrArg Ending.returned HE2.out, HR2.out, HB2.out⟩
      · rw [hd, if_pos rfl] at he
        have HE := Lib.hid he
        clear he
        have ho := HO.out
        rw [HE.out] at ho
        obtain ⟨B, cap, e, hR⟩ := ReadsL.of_own ho rfl
        have HR2 := Lib.hid hR
        have HE2 := Lib.hid e
        have HB2 := Lib.hid (HB0.out.trans (HB.out.mono HB0.out.size))
        clear ho hR e
        go_wp2
        go_ret
        exact ⟨B, cap, congrArg Ending.returned HE2.out, HR2.out, HB2.out⟩
end Go.Proofs.YtnfgpjfldgocaaaGreat

namespace Go.Proofs.YtnfgpjfldgocaaaGreat
open Go.RowKit Bm

/-- The latest places of the first j pages. -/
def ofA (all : List PlM) (j : Nat) : List PlM := (all.take j).foldl ofS []
theorem ofA_succ (all : List PlM) (j : Nat) (h : j < all.length) : ofA all (j + 1) = ofS (ofA all j) (plN all j) := fold_step _ _ _ _ h
theorem ofA_all (all : List PlM) : ofA all all.length = lOf all := by unfold ofA lOf; rw [List.take_length]
theorem ofA_len (all : List PlM) (j : Nat) : (ofA all j).length ≤ j := by
  have := of_len (all.take j)
  rw [List.length_take] at this
  show (lOf (all.take j)).length ≤ j
  omega
theorem cnt_len (bs : List BlkM) : (cnt bs).length ≤ 8 * bs.length := cntU_len bs _

set_option maxRecDepth 100000 in
set_option maxHeartbeats 4000000 in
theorem rlof_any (A : Option Addr) (n c : Nat) (bs : List BlkM) (w : World) (hA : ReadsB w A n c bs) (hn : n ≤ 1000) : Calls Tryz.prog 31 #[.slice A n c] w fun e w' => ∃ B cap, e = .returned (.slice B (lOf (cnt bs)).length cap) ∧ ReadsL w' B (lOf (cnt bs)).length cap (lOf (cnt bs)) ∧ Below w.heap.size w w' := by
  have hz := rpl_zero
  have HC := Lib.hid (rcnt_any A n c bs w hA hn)
  have hl := cnt_len bs
  rw [hA.len] at hl
  obtain ⟨all, hall⟩ : ∃ all, all = cnt bs := ⟨_, rfl⟩
  rw [← hall] at HC hl ⊢
  have HLL : Hid (all.length ≤ 8000) := Lib.hid (by omega)
  obtain ⟨m, hm⟩ : ∃ m, m = all.length := ⟨_, rfl⟩
  rw [← hm] at HC
  have HM := Lib.hid hm
  clear hA hl hall hm
  go_enter Tryz.func31, Tryz.ntmps31
  go_wp2_with (go_at_call 50; (refine HC.out.mono ?_); rintro e w1 ⟨B1, cap1, rfl, hr, hb⟩; have HR1 := Lib.hid hr; have HB1 := Lib.hid hb; clear hr hb)
  go_loopg [4, 5] m (fun g o i wr => ∃ j : Nat, j ≤ m ∧ g = m - j ∧ i = .int .i64 j ∧ ∃ B cap, o = .slice B (ofA all j).length cap ∧ ReadsL wr B (ofA all j).length cap (ofA all j) ∧ Below w1.heap.size w1 wr)
  case atStart => exact ⟨0, by omega, rfl, rfl, none, 0, rfl, ReadsL.none _, Below.refl _ _⟩
  case round =>
    obtain ⟨j, hj, rfl, rfl, B, cap, rfl, hT, hB⟩ := hrel
    have HT := Lib.hid hT
    have HB := Lib.hid hB
    have HLJ := Lib.hid (ofA_len all j)
    have hmm : (m : Int) ≤ 8000 := by have := HM.out; have := HLL.out; omega
    clear hT hB
    by_cases hltj : j < m
    · have j0 : (0 : Int) ≤ (j : Int) := by omega
      have j1 : (j : Int) < (m : Int) := by omega
      have hsucc := ofA_succ all j (by rw [← HM.out]; exact hltj)
      obtain ⟨g, off, rfl, hg, hr⟩ := HR1.out.at_ hltj
      obtain ⟨y, hy⟩ : ∃ y, y = plN all j := ⟨_, rfl⟩
      rw [← hy] at hr hsucc
      have HR := Lib.hid hr
      have HG := Lib.hid hg
      have KY : Hid (∀ W, Below w1.heap.size w1 W → W.rangeAt g (off + j * 9) (plC y)) := Lib.hid (fun W hW => range_kept HR.out (hW.block g HG.out))
      have ys2 := (pl_cells (KY.out wr HB.out)).2.2.1
      have RF := rlfind_any B _ cap (ofA all j) y.p.s wr HT.out (by have := HLJ.out; omega)
      clear hr hg hy
      cases hf : lFind (ofA all j) y.p.s with
      | none =>
        rw [hf] at RF
        dsimp only [Option.getD, Option.isSome] at RF
        unfold plV at RF
        have HRF := Lib.hid RF
        have HSU : Hid (ofA all (j + 1) = lIns (ofA all j) y) := Lib.hid (hsucc.trans (by unfold ofS; rw [hf]))
        clear RF hsucc hf
        go_wp2_with (first
          | (go_at_call 34; (refine HRF.out.mono ?_); rintro e w2 ⟨rfl, hb⟩; have HB2 := Lib.hid (HB.out.trans (hb.mono HB.out.size)); have HT2 := Lib.hid (HT.out.kept hb); clear hb)
          | (refine wpList_stm (pre := []) (post := []) (xs := plC pl0) (ys := plC pl0) _ _ rfl rfl rfl rfl rpl_size (by rfl) (plC_len _) (plC_one _) rfl (by simp) (At.news w2 _ (plC pl0)) ?_; intro V A3 T3; rw [List.nil_append, List.append_nil] at A3; have HA3 := Lib.hid A3; have HT3 := Lib.hid T3; clear A3 T3))
        have hbV : Below w2.heap.size w2 V := ((Below.refl _ w2).alloc (Nat.le_refl _) _).trans (HT3.out.below (fun k hk => by unfold Just at hk; omega) (by simp))
        have HBV := Lib.hid (HB2.out.trans (hbV.mono HB2.out.size))
        have HTV := Lib.hid (HT2.out.kept hbV)
        clear hbV
        go_quiet (fail)
        have HB4 := Lib.hid (HBV.out.trans (below_drewN' _ _ nq))
        have RP := Lib.hid (rput_any B _ cap (ofA all j) y (V.drewN nq) (HTV.out.kept (below_drewN' _ V nq)) (by have := HLJ.out; have := HLL.out; have := HM.out; omega))
        unfold plV at RP
        rw [← HSU.out] at RP
        go_wp2_with (first
          | (refine wpList_ldr _ rfl rfl rfl Tryz.underlying76 rfl rpl_size (plC_len _) (KY.out _ HB4.out) ?_)
          | (go_at_call 51; (refine RP.out.mono ?_); rintro e w5 ⟨B5, cap5, rfl, hr, hb⟩; have HR5 := Lib.hid hr; have HB5 := Lib.hid (HB4.out.trans (hb.mono HB4.out.size)); clear hr hb))
        go_roundg (m - (j + 1))
        case measure => go_light; omega
        case rel =>
          go_light
          exact ⟨j + 1, by omega, rfl, by go_num, B5, cap5, rfl, HR5.out, HB5.out⟩
      | some o =>
        rw [hf] at RF
        dsimp only [Option.getD, Option.isSome] at RF
        unfold plV at RF
        have HRF := Lib.hid RF
        have HSU0 : Hid (ofA all (j + 1) = if U o.p.q < U y.p.q then lIns (ofA all j) y else ofA all j) := Lib.hid (hsucc.trans (by unfold ofS; rw [hf]))
        clear RF hsucc hf
        go_wp2_with (first
          | (go_at_call 34; (refine HRF.out.mono ?_); rintro e w2 ⟨rfl, hb⟩; have HB2 := Lib.hid (HB.out.trans (hb.mono HB.out.size)); have HT2 := Lib.hid (HT.out.kept hb); clear hb)
          | (refine wpList_stm (pre := []) (post := []) (xs := plC pl0) (ys := plC o) _ _ rfl rfl rfl rfl rpl_size (by rfl) (plC_len _) (plC_one _) rfl (by simp) (At.news w2 _ (plC pl0)) ?_; intro V A3 T3; rw [List.nil_append, List.append_nil] at A3; have HA3 := Lib.hid A3; have HT3 := Lib.hid T3; clear A3 T3))
        have hbV : Below w2.heap.size w2 V := ((Below.refl _ w2).alloc (Nat.le_refl _) _).trans (HT3.out.below (fun k hk => by unfold Just at hk; omega) (by simp))
        have HBV := Lib.hid (HB2.out.trans (hbV.mono HB2.out.size))
        have HTV := Lib.hid (HT2.out.kept hbV)
        have os3 : V.cell? ⟨w2.heap.size, 3, none⟩ = some (.int .u32 (U o.p.q)) := HA3.out.cell 3
        have ys3 := (pl_cells (KY.out V HBV.out)).2.2.2
        clear hbV ys2
        by_cases hq : U o.p.q < U y.p.q
        · have HSU := Lib.hid (HSU0.out.trans (if_pos hq))
          go_quiet (fail)
          have HB4 := Lib.hid (HBV.out.trans (below_drewN' _ _ nq))
          have RP := Lib.hid (rput_any B _ cap (ofA all j) y (V.drewN nq) (HTV.out.kept (below_drewN' _ V nq)) (by have := HLJ.out; have := HLL.out; have := HM.out; omega))
          unfold plV at RP
          rw [← HSU.out] at RP
          go_wp2_with (first
            | (refine wpList_ldr _ rfl rfl rfl Tryz.underlying76 rfl rpl_size (plC_len _) (KY.out _ HB4.out) ?_)
            | (go_at_call 51; (refine RP.out.mono ?_); rintro e w5 ⟨B5, cap5, rfl, hr, hb⟩; have HR5 := Lib.hid hr; have HB5 := Lib.hid (HB4.out.trans (hb.mono HB4.out.size)); clear hr hb))
          go_roundg (m - (j + 1))
          case measure => go_light; omega
          case rel =>
            go_light
            exact ⟨j + 1, by omega, rfl, by go_num, B5, cap5, rfl, HR5.out, HB5.out⟩
        · have HSU := Lib.hid (HSU0.out.trans (if_neg hq))
          go_quiet (fail)
          have HB4 := Lib.hid (HBV.out.trans (below_drewN' _ _ nq))
          have HT4 := Lib.hid (HTV.out.kept (below_drewN' _ V nq))
          go_wp2
          go_roundg (m - (j + 1))
          case measure => go_light; omega
          case rel =>
            go_light
            exact ⟨j + 1, by omega, rfl, by go_num, B, cap, by rw [HSU.out], by rw [HSU.out]; exact HT4.out, HB4.out⟩
    · obtain rfl : j = m := by omega
      have e : ofA all j = lOf all := by rw [HM.out]; exact ofA_all all
      have hT := HT.out
      rw [e] at hT ⊢
      have HTE := Lib.hid hT
      clear hT e
      go_wp2
      go_ret
      exact ⟨B, cap, rfl, HTE.out, HB1.out.trans (HB.out.mono HB1.out.size)⟩

def topA (all : List PlM) (j : Nat) : BitVec 32 := (all.take j).foldl topS 0#32
theorem topA_succ (all : List PlM) (j : Nat) (h : j < all.length) : topA all (j + 1) = topS (topA all j) (plN all j) := fold_step _ _ _ _ h
theorem topA_all (all : List PlM) : topA all all.length = lTop all := by unfold topA lTop; rw [List.take_length]
theorem topA_zero (all : List PlM) : U (topA all 0) = 0 := rfl

end Go.Proofs.YtnfgpjfldgocaaaGreat

namespace Go.Proofs.YtnfgpjfldgocaaaGreat
open Go.RowKit Bm

theorem beats_far {y x : PlM} (h : y.p.s ≠ x.p.s) : beats y x = false := by unfold beats; exact decide_eq_false fun c => h c.1
theorem beats_own {y x : PlM} (h1 : y.b = x.b) (h2 : y.i = x.i) : beats y x = false := by unfold beats; exact decide_eq_false fun c => c.2.1 ⟨h1, h2⟩
theorem beats_is {y x : PlM} (hs : y.p.s = x.p.s) (h : ¬ (y.b = x.b ∧ y.i = x.i)) : beats y x = decide (U x.p.q < U y.p.q ∨ (U y.p.q = U x.p.q ∧ (y.b ≠ x.b ∨ y.i < x.i))) := by
  unfold beats
  rw [Bool.eq_iff_iff, decide_eq_true_iff, decide_eq_true_iff]
  constructor
  · rintro ⟨_, _, h1 | ⟨h1, h2⟩⟩
    · exact .inl h1
    · exact .inr ⟨by rw [h1], h2⟩
  · intro c
    refine ⟨hs, h, ?_⟩
    rcases c with c | ⟨c1, c2⟩
    · exact .inl c
    · exact .inr ⟨U_inj c1, c2⟩
theorem needs_all {all : List PlM} {x : PlM} (h : ∀ k, k < all.length → beats (plN all k) x = false) : lNeeds all x = true := needs_iff.2 fun y hy hb => by
  obtain ⟨k, hk, rfl⟩ := List.getElem_of_mem hy
  have := h k hk
  unfold plN at this
  rw [List.getD_eq_getElem?_getD, List.getElem?_eq_getElem hk] at this
  rw [show ((some all[k]).getD pl0) = all[k] from rfl, hb] at this
  cases this
theorem needs_not {all : List PlM} {x : PlM} {k : Nat} (hk : k < all.length) (h : beats (plN all k) x = true) : lNeeds all x = false := by
  cases hc : lNeeds all x
  · rfl
  · exact absurd h (needs_iff.1 hc _ (List.mem_of_getElem? (plN_get hk)))

end Go.Proofs.YtnfgpjfldgocaaaGreat

namespace Go.Proofs.YtnfgpjfldgocaaaGreat
open Go.RowKit Bm

/-- What is needed of block k, of the first j pages. -/
def needA (all : List PlM) (k : Int) (j : Nat) : List PlM := (all.take j).filter fun x => decide (x.b = k) && lNeeds all x
theorem needA_succ (all : List PlM) (k : Int) (j : Nat) (h : j < all.length) : needA all k (j + 1) = needA all k j ++ (if (plN all j).b = k ∧ lNeeds all (plN all j) = true then [plN all j] else []) := by
  unfold needA
  rw [List.take_add_one, plN_get h, List.filter_append]
  congr 1
  by_cases hc : (plN all j).b = k ∧ lNeeds all (plN all j) = true
  · rw [if_pos hc]; simp [hc.1, hc.2]
  · rw [if_neg hc]
    simp only [Option.toList_some]
    rw [List.filter_cons_of_neg (by simpa using hc)]
    rfl
theorem needA_all (all : List PlM) (k : Int) : needA all k all.length = lNeeded all k := by unfold needA lNeeded; rw [List.take_length]
theorem needA_len (all : List PlM) (k : Int) (j : Nat) : (needA all k j).length ≤ j := by
  have := List.length_filter_le (fun x => decide (x.b = k) && lNeeds all x) (all.take j)
  rw [List.length_take] at this
  show ((all.take j).filter _).length ≤ j
  omega


theorem pl_dec (a b : PlM) : (a.b == b.b && (a.i == b.i && decide (a.p = b.p))) = decide (a = b) := by
  obtain ⟨h, c, k⟩ := a
  obtain ⟨h', c', k'⟩ := b
  rw [Bool.eq_iff_iff]
  simp only [Bool.and_eq_true, beq_iff_eq, decide_eq_true_eq, PlM.mk.injEq]
theorem pl_page_cells (a : PlM) : (plC a).toArray.extract 2 (2 + 7) = (pgC a.p).toArray := rfl
/-- Two of the document's places are compared. -/
theorem run_eq_rpl (d : Nat) (a b : PlM) (w : World) : (Op.equalIn (d + 4) 76 (.agg (plC a).toArray) (.agg (plC b).toArray)).run Tryz.prog w = .ok (decide (a = b)) w := by
  rw [run_equalIn_struct w _ _ _ _ (by kernel_rfl) (by kernel_rfl)]
  rw [← pl_dec]
  have p : ∀ w, (Op.equalIn (d + 3) 69 (.agg (pgC a.p).toArray) (.agg (pgC b.p).toArray)).run Tryz.prog w = .ok (decide (a.p = b.p)) w := fun w => by
    rw [← pg_dec]
    exact run_eq_rpage d _ _ _ _ _ _ _ _ _ _ _ _ _ _ w
  have i1 := fun w a b => run_equalIn_int (P := Tryz.prog) w (d + 2) 3 .i64 _ a b Tryz.underlying3
  have q0 := fun w => part_one Tryz.underlying3 w (plC a).toArray 0 (.int .i64 a.b) rfl
  have q0' := fun w => part_one Tryz.underlying3 w (plC b).toArray 0 (.int .i64 b.b) rfl
  have q1 := fun w => part_one Tryz.underlying3 w (plC a).toArray 1 (.int .i64 a.i) rfl
  have q1' := fun w => part_one Tryz.underlying3 w (plC b).toArray 1 (.int .i64 b.i) rfl
  have q3 := fun w => part_agg Tryz.underlying69 rfl (size_of (n := 7) (by kernel_rfl)) w (plC a).toArray 2
  have q3' := fun w => part_agg Tryz.underlying69 rfl (size_of (n := 7) (by kernel_rfl)) w (plC b).toArray 2
  rw [pl_page_cells] at q3 q3'
  unfold Program.fieldsOf
  rw [Tryz.underlying76]
  simp only [Op.eqFields, Sem.run_bind, Sem.run_ite, q0, q0', q1, q1', q3, q3', Result.andThen_ok, i1, p]
  have n0 : ("Block" : String) ≠ "_" := by decide
  have n1 : ("Page" : String) ≠ "_" := by decide
  have n2 : ("What" : String) ≠ "_" := by decide
  rw [if_pos n0, if_pos n1, if_pos n2]
  generalize (a.b == b.b) = b0
  generalize (a.i == b.i) = b1
  generalize decide (a.p = b.p) = b2
  cases b0 <;> cases b1 <;> cases b2 <;> rfl
end Go.Proofs.YtnfgpjfldgocaaaGreat

namespace Go.Proofs.YtnfgpjfldgocaaaGreat
open Go.RowKit Bm

theorem ext_pl {xs ys : List PlM} (hl : xs.length = ys.length) (h : ∀ i, i < xs.length → plN xs i = plN ys i) : xs = ys := by
  apply List.ext_getElem hl
  intro i h1 h2
  have := h i h1
  unfold plN at this
  rw [List.getD_eq_getElem?_getD, List.getD_eq_getElem?_getD, List.getElem?_eq_getElem h1, List.getElem?_eq_getElem h2] at this
  exact this


theorem spg_size7ours : (Tryz.prog.info? 98).map (·.size) = some 7 := by kernel_rfl
theorem spg_size7theirs : (Tryz.prog.info? 69).map (·.size) = some 7 := by kernel_rfl


end Go.Proofs.YtnfgpjfldgocaaaGreat
