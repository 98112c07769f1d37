/- The walk of layer page's statement PageTorn. -/
import Derived.Test.YtkjgbjcdpifamaaPageTornM
import Derived.Deep.LoopGhost
import Derived.Deep.Light
import Derived.StillTailTactics
import Derived.Test.YtkjgbjcdpifamaaBitsRef
namespace Go.Proofs.Ytkjgbjcdpifamaa
open Go.RowKit Bm

/-- Where the outer loop stands. -/
structure TornSt (w wr : World) (pb sb : Nat) (ks : List (BitVec 32)) (A2 A3 : Option Addr) (c2 c3 g2 g3 n2 n3 : Nat) (l2 l3 : List (BitVec 32)) (j : Nat) : Prop where
  picks : At wr pb 46 (Us ks)
  list : At wr sb 26 [.slice A2 n2 c2, .slice A3 n3 c3]
  own2 : j = 0 → Own wr A2 n2 c2 g2 l2
  own3 : j ≤ 1 → Own wr A3 n3 c3 g3 l3
  below : Below w.heap.size w wr

set_option maxRecDepth 100000 in
set_option maxHeartbeats 16000000 in
theorem pageTorn_walk (p : PageM) (x0 : Int) (hx0 : (Lit.int .u32 x0).wf = true) (k0 k1 k2 k3 k4 k5 k6 : BitVec 32) (w : World) :
    Calls Try.prog 6 #[pgV p, .int .u32 x0, .agg #[.int .u32 (U k0), .int .u32 (U k1), .int .u32 (U k2), .int .u32 (U k3), .int .u32 (U k4), .int .u32 (U k5), .int .u32 (U k6)]] w fun e w' => e = .returned (.bool true) ∧ Below w.heap.size w w' := by
  have cx := bounds_u32 hx0
  obtain ⟨x, rfl⟩ := U_of cx.1 (by omega)
  clear hx0 cx
  have HAL := Lib.hid (fun W => alive4_any W)
  obtain ⟨ks, hks⟩ : ∃ ks, ks = [k0, k1, k2, k3, k4, k5, k6] := ⟨_, rfl⟩
  obtain ⟨Z0, hZ0⟩ : ∃ Z, Z = (w.alloc (.cells (pgC p).toArray 25)).alloc (.cells (Us [k0, k1, k2, k3, k4, k5, k6]).toArray 46) := ⟨_, rfl⟩
  have e1 : (w.alloc (.cells (pgC p).toArray 25)).heap.size = w.heap.size + 1 := by simp
  have b0' : Below w.heap.size w Z0 := by rw [hZ0]; exact ((Below.refl _ w).alloc (Nat.le_refl _) _).alloc (by omega) _
  have Pp : PgAt Z0 w.heap.size 25 p := by rw [hZ0]; exact ⟨(At.news w _ _).alloc _⟩
  have Pk : At Z0 (w.heap.size + 1) 46 (Us ks) := by rw [hZ0, ← e1, hks]; exact At.news _ _ _
  have hkl : ks.length = 7 := by rw [hks]; rfl
  have B0 := Lib.hid b0'
  have HZ := Lib.hid hZ0
  have P0 := Lib.hid Pp
  have K0 := Lib.hid Pk
  have HKL := Lib.hid hkl
  clear b0' Pp Pk hZ0 e1 hks hkl
  have PW := Lib.hid (fun W => (pwords_any p W).mono fun _ _ h => h.own)
  have PH := Lib.hid (fun W => (pheader_any x W).mono fun _ _ h => h.own)
  unfold pgV pgC at PW ⊢
  go_enter Try.func6, Try.ntmps6
  go_upto_region 1 with fail
  change Code.wp _ _ _ _ ((w.alloc (.cells (pgC p).toArray 25)).alloc (.cells (Us [k0, k1, k2, k3, k4, k5, k6]).toArray 46))
  rw [← HZ.out]
  go_wp2_with (first
    | (go_at_call 9; (refine (HAL.out _).mono ?_); rintro e w1 ⟨rfl, hb⟩; have P1 := Lib.hid (P0.out.on hb); have K1 := Lib.hid (K0.out.on hb); have B1 := Lib.hid (below_then B0.out hb); clear hb; obtain ⟨p10, p11, p12, p13, p14, p15, p16⟩ := P1.out.cells)
    | (go_at_call 15; (refine (PW.out _).mono ?_); rintro e w2 ⟨A2, c2, g2, rfl, h2, hg2, hb⟩; have O2 := Lib.hid h2; have G2 := Lib.hid hg2; have K2 := Lib.hid (K1.out.on hb); have B2 := Lib.hid (below_then B1.out hb); clear hb h2 hg2)
    | (go_at_call 19; (refine (PH.out _).mono ?_); rintro e w3 ⟨A3, c3, g3, rfl, h3, hg3, hb⟩; have O23 := Lib.hid (O2.out.on hb); have O3 := Lib.hid h3; have G3 := Lib.hid hg3; have K3 := Lib.hid (K2.out.on hb); have B3 := Lib.hid (below_then B2.out hb); clear hb h3 hg3))
  have hn23 : 0 < (pgWs p).length → 0 < (hdWs x).length → g2 ≠ g3 := fun h h' e => by
    have a := (G2.out h).2
    have b := (G3.out h').1
    omega
  have V0 := (Below.refl _ w3).alloc (Nat.le_refl _) (.cells [.slice A2 (pgWs p).length c2, .slice A3 (hdWs x).length c3].toArray 26)
  have T0 : TornSt w (w3.alloc (.cells [.slice A2 (pgWs p).length c2, .slice A3 (hdWs x).length c3].toArray 26)) (w.heap.size + 1) w3.heap.size ks A2 A3 c2 c3 g2 g3 (pgWs p).length (hdWs x).length (pgWs p) (hdWs x) 0 :=
    ⟨K3.out.on V0, At.news w3 _ _, fun _ => O23.out.on V0, fun _ => O3.out.on V0, below_then B3.out V0⟩
  have hgb2 : 0 < (pgWs p).length → w.heap.size ≤ g2 := fun h => by have := (G2.out h).1; have := B1.out.size; omega
  have hgb3 : 0 < (hdWs x).length → w.heap.size ≤ g3 := fun h => by have := (G3.out h).1; have := B2.out.size; omega
  obtain ⟨sb, hsb⟩ : ∃ sb, sb = w3.heap.size := ⟨_, rfl⟩
  obtain ⟨n2, hn2⟩ : ∃ n2, n2 = (pgWs p).length := ⟨_, rfl⟩
  obtain ⟨n3, hn3⟩ : ∃ n3, n3 = (hdWs x).length := ⟨_, rfl⟩
  obtain ⟨pb, hpb⟩ : ∃ pb, pb = w.heap.size + 1 := ⟨_, rfl⟩
  rw [← hsb, ← hn2, ← hn3, ← hpb] at T0 ⊢
  rw [← hn2, ← hn3] at hn23
  rw [← hn2] at hgb2
  rw [← hn3] at hgb3
  have HN23 := Lib.hid hn23
  have HGB2 := Lib.hid hgb2
  have HGB3 := Lib.hid hgb3
  have HN2 := Lib.hid hn2
  have HN3 := Lib.hid hn3
  have RP := Lib.hid (fun f t q W => rpartial_any f t q W)
  clear V0 hgb2 hgb3 hsb hn2 hn3 hpb hn23 p10 p11 p12 p13 p14 p15 p16
  go_loopg [23] 2 (fun gg i wr => ∃ j : Nat, j ≤ 2 ∧ gg = 2 - j ∧ i = .int .i64 j ∧ TornSt w wr pb sb ks A2 A3 c2 c3 g2 g3 n2 n3 (pgWs p) (hdWs x) j)
  case atStart => exact ⟨0, by omega, rfl, rfl, T0⟩
  case round =>
    clear T0
    obtain ⟨j, hj, rfl, rfl, T⟩ := hrel
    obtain ⟨W0, rfl⟩ : ∃ W0, W0 = wr := ⟨_, rfl⟩
    have TH := Lib.hid T
    have l0 := T.list.cell 0
    have l1 := T.list.cell 1
    simp only [List.getElem?_cons_succ, List.getElem?_cons_zero] at l0 l1
    clear T
    by_cases j2 : j = 2
    · subst j2
      go_wp2
      go_ret
      exact ⟨rfl, TH.out.below⟩
    by_cases j0 : j = 0
    · subst j0
      by_cases hok : pgOk p = true
      · have hl : (pgWs p) = [pgFirst p, p.q, p.d0, p.d1, p.d2, p.d3, 1526644958#32] := pgWs_yes hok
        have hlen : (pgWs p).length = 7 := by rw [hl]; rfl
        have hw : wd (pgWs p) 6 = 1526644958#32 := by rw [hl]; rfl
        have hnn : n2 = 7 := by rw [HN2.out]; exact hlen
        have OW := TH.out.own2 rfl
        rw [hnn] at HN23 HGB2 l0 OW
        clear l1
        obtain ⟨eA, rest, hA, hc, hm⟩ := OW.own (by omega)
        subst eA
        obtain ⟨ls, hls⟩ : ∃ ls, ls = (pgWs p) := ⟨_, rfl⟩
        rw [← hls] at hA hc hlen hw
        have HLS := Lib.hid hls
        have cK : W0.cell? ⟨g2, 6, none⟩ = some (.int .u32 (U 1526644958#32)) := by
          rw [hA.cell, List.getElem?_append_left (by rw [Us_length]; omega), Us_get ls 6 (by omega), hw]
        have HA := Lib.hid hA
        have HC := Lib.hid hc
        have HM := Lib.hid hm
        have HLEN := Lib.hid hlen
        have HW := Lib.hid hw
        have hkn : 6 < 7 := by omega
        clear hA hc hm hlen hw hl hok hls hnn OW
        go_wp2
        go_loopg [39, 11] 7 (fun gg i f wq => ∃ t : Nat, t ≤ 7 ∧ gg = 7 - t ∧ i = .int .i64 t ∧ f = .bool (flW ls ks t) ∧ At wq g2 22 (Us (mixW ls ks t) ++ rest) ∧ Turned (fun b => b = g2) W0 wq)
        case atStart => exact ⟨0, by omega, rfl, rfl, rfl, by rw [mixW_zero]; exact HA.out, Turned.refl _ _⟩
        case round =>
          obtain ⟨t, ht, rfl, rfl, rfl, hA, hT⟩ := hrel
          have HTT := Lib.hid hT
          have HAA := Lib.hid hA
          have PK := TH.out.picks.kept hT (fun e => TH.out.picks.ne HA.out (by decide) e)
          by_cases hlt : t < 7
          · have g0 : wr.cell? ⟨g2, t, none⟩ = some (.int .u32 (U (wd ls t))) := by
              rw [hA.cell, List.getElem?_append_left (by rw [Us_length, mixW_len, HLEN.out]; exact hlt), Us_get _ t (by rw [mixW_len, HLEN.out]; exact hlt), wd_mixW ls ks t t (by rw [HLEN.out]; exact hlt), if_neg (by omega)]
            have f0 := hA.frozen t
            have k0 : wr.cell? ⟨pb, t, none⟩ = some (.int .u32 (U (wd ks t))) := by
              rw [PK.cell]
              exact Us_get ks t (by rw [HKL.out]; omega)
            have hlz : (t : Int) < 7 := by omega
            have hlz7 : (t : Int) < 7 := by omega
            have hz0 : (0 : Int) ≤ (t : Int) := by omega
            clear hA hT PK
            go_wp2
            refine wp_region_still_tail 11 (by kernel_rfl) (by decide +kernel) ?_
            simp only [List.take_succ_cons, List.take_zero, List.drop_succ_cons, List.drop_zero]
            change wpStill _ _ (World.drew _) _ _ _
            repeat still_step
            still_call (RP.out 4294967295#32 _ _ _)
            repeat still_step
            refine wpStill_nil ?_
            change wpList _ _ _ _ _ (World.drew _)
            go_upto_region 14 with fail
            obtain ⟨X, hX⟩ : ∃ X, X = (wr.setCell ⟨g2, t, none⟩ (.int .u32 (U (partB 4294967295#32 (wd ls t) (wd ks t))))).drew := ⟨_, rfl⟩
            rw [← hX]
            have AX : At X g2 22 (Us (mixW ls ks (t + 1)) ++ rest) := by
              rw [hX]
              refine ((HAA.out.put t _).drew).as ?_
              rw [List.set_append_left _ _ (by rw [Us_length, mixW_len, HLEN.out]; exact hlt), Us_set, mixW_set _ _ _ (by rw [HLEN.out]; exact hlt)]
            have TX : Turned (fun b => b = g2) W0 X := by rw [hX]; exact (HTT.out.setCell (p := ⟨g2, t, none⟩) (fun _ => rfl) _).drew
            have gx : X.cell? ⟨g2, t, none⟩ = some (.int .u32 (U (partB 4294967295#32 (wd ls t) (wd ks t)))) := by
              rw [AX.cell, List.getElem?_append_left (by rw [Us_length, mixW_len, HLEN.out]; exact hlt), Us_get _ t (by rw [mixW_len, HLEN.out]; exact hlt), wd_mixW ls ks (t + 1) t (by rw [HLEN.out]; exact hlt), if_pos (by omega)]
            have AXX := Lib.hid AX
            have TXX := Lib.hid TX
            clear hX AX TX g0 f0 k0
            cases hfl : flW ls ks t
            · have HFL := Lib.hid hfl
              clear hfl
              go_wp2
              go_roundg (7 - (t + 1))
              case measure => go_light; omega
              case rel => go_light; exact ⟨t + 1, by omega, rfl, by simp, by rw [flW_succ, HFL.out]; rfl, AXX.out, TXX.out⟩
            · have HFL := Lib.hid hfl
              clear hfl
              by_cases hy : partB 4294967295#32 (wd ls t) (wd ks t) = 4294967295#32
              · have HY := Lib.hid hy
                rw [hy] at gx
                clear hy
                go_wp2
                go_roundg (7 - (t + 1))
                case measure => go_light; omega
                case rel => go_light; exact ⟨t + 1, by omega, rfl, by simp, by rw [flW_succ, HFL.out, HY.out]; rfl, AXX.out, TXX.out⟩
              · have HY := Lib.hid hy
                have hu : ¬ U (partB 4294967295#32 (wd ls t) (wd ks t)) = 4294967295 := by rw [show (4294967295 : Int) = U 4294967295#32 from rfl, U_eq_iff]; exact hy
                clear hy
                go_wp2
                go_roundg (7 - (t + 1))
                case measure => go_light; omega
                case rel => go_light; exact ⟨t + 1, by omega, rfl, by simp, by rw [flW_succ, HFL.out, Bool.true_and, ← U_beq]; rfl, AXX.out, TXX.out⟩
          · obtain rfl : t = 7 := by omega
            have LSr := TH.out.list.kept hT (fun e => TH.out.list.ne HA.out (by decide) e)
            have Br : Below w.heap.size w wr := TH.out.below.trans (hT.below (fun b e => by rw [e]; exact HGB2.out (by omega)) TH.out.below.size)
            have O3r := Lib.hid ((TH.out.own3 (by omega)).other hT (fun h e => HN23.out (by omega) h e.symm))
            obtain ⟨vs, hvs⟩ : ∃ vs, vs = mixW ls ks 7 := ⟨_, rfl⟩
            have hvl : vs.length = 7 := by rw [hvs, mixW_len, HLEN.out]
            have hfb : flW ls ks 7 = freeB vs := by rw [hvs, ← HLEN.out]; exact flW_all ls ks
            rw [← hvs] at hA
            have gk : wr.cell? ⟨g2, 6, none⟩ = some (.int .u32 (U (wd vs 6))) := by
              rw [hA.cell, List.getElem?_append_left (by rw [Us_length]; omega), Us_get vs 6 (by omega)]
            have RV := ReadsU.of_at hA (cap := c2) (by rw [List.length_append, Us_length, hvl, ← HC.out, List.length_append, Us_length, HLEN.out]) HM.out
            rw [hvl] at RV
            have P6 := Lib.hid PK
            have LSS := Lib.hid LSr
            have BRR := Lib.hid Br
            have RVV := Lib.hid RV
            have HVL := Lib.hid hvl
            have FBB := Lib.hid hfb
            clear hA hT PK LSr Br RV hvs hvl
            by_cases hk : wd vs 6 = 1526644958#32
            · rw [hk] at gk
              clear hk hfb
              go_wp2
              go_roundg (2 - 1)
              case measure => go_light; omega
              case rel => go_light; exact ⟨1, by omega, rfl, by simp, ⟨P6.out, LSS.out, fun e => absurd e (by omega), fun _ => O3r.out, BRR.out⟩⟩
            · have hu : ¬ U (wd vs 6) = 1526644958 := by rw [show (1526644958 : Int) = U 1526644958#32 from rfl, U_eq_iff]; exact hk
              have hu1 : ¬ U (wd vs 6) = U 1526644958#32 := by rw [U_eq_iff]; exact hk
              have ER := Lib.hid (pgRd_torn7 HVL.out hk)
              rw [hfb]
              clear hk hfb
              cases fb : freeB vs
              · rw [fb] at ER
                clear fb
                go_wp2_with ((go_at_call 10; (refine (pread_any _ _ _ _ _ RVV.out (by omega)).mono ?_); rintro e w4 ⟨rfl, hb⟩; rw [ER.out]; simp only [pgV, pgC, pg0, if_true, Bool.false_eq_true, if_false]; have al := (Below.refl _ w4).alloc (Nat.le_refl _) (.cells (pgC pg0).toArray 28); have PK5 := Lib.hid ((P6.out.on hb).on al); have LS5 := Lib.hid ((LSS.out.on hb).on al); have O35 := Lib.hid ((O3r.out.on hb).on al); have B5 := Lib.hid (below_then (below_then BRR.out hb) al); clear hb al))
                go_roundg (2 - 1)
                case measure => go_light; omega
                case rel => go_light; exact ⟨1, by omega, rfl, by simp, ⟨PK5.out, LS5.out, fun e => absurd e (by omega), fun _ => O35.out, B5.out⟩⟩
              · rw [fb] at ER
                clear fb
                go_wp2_with ((go_at_call 10; (refine (pread_any _ _ _ _ _ RVV.out (by omega)).mono ?_); rintro e w4 ⟨rfl, hb⟩; rw [ER.out]; simp only [pgV, pgC, pg0, if_true, Bool.false_eq_true, if_false]; have al := (Below.refl _ w4).alloc (Nat.le_refl _) (.cells (pgC pg0).toArray 28); have PK5 := Lib.hid ((P6.out.on hb).on al); have LS5 := Lib.hid ((LSS.out.on hb).on al); have O35 := Lib.hid ((O3r.out.on hb).on al); have B5 := Lib.hid (below_then (below_then BRR.out hb) al); clear hb al))
                go_roundg (2 - 1)
                case measure => go_light; omega
                case rel => go_light; exact ⟨1, by omega, rfl, by simp, ⟨PK5.out, LS5.out, fun e => absurd e (by omega), fun _ => O35.out, B5.out⟩⟩
      · have hl : (pgWs p) = [] := pgWs_no (by simpa using hok)
        have hnn : n2 = 0 := by rw [HN2.out, hl]; rfl
        rw [hnn] at l0
        clear l1
        clear hl hok hnn
        go_wp2
        go_roundg (2 - 1)
        case measure => go_light; omega
        case rel => go_light; exact ⟨1, by omega, rfl, by simp, ⟨TH.out.picks, TH.out.list, fun e => absurd e (by omega), fun _ => (TH.out.own3 (by omega)), TH.out.below⟩⟩
    · obtain rfl : j = 1 := by omega
      by_cases hok : U x ≤ 2147483648
      · have hl : (hdWs x) = [2970353665#32, x, ~~~x, 1526644958#32] := hdWs_yes hok
        have hlen : (hdWs x).length = 4 := by rw [hl]; rfl
        have hw : wd (hdWs x) 3 = 1526644958#32 := by rw [hl]; rfl
        have hnn : n3 = 4 := by rw [HN3.out]; exact hlen
        have OW := TH.out.own3 (by omega)
        rw [hnn] at HN23 HGB3 l1 OW
        clear l0
        obtain ⟨eA, rest, hA, hc, hm⟩ := OW.own (by omega)
        subst eA
        obtain ⟨ls, hls⟩ : ∃ ls, ls = (hdWs x) := ⟨_, rfl⟩
        rw [← hls] at hA hc hlen hw
        have HLS := Lib.hid hls
        have cK : W0.cell? ⟨g3, 3, none⟩ = some (.int .u32 (U 1526644958#32)) := by
          rw [hA.cell, List.getElem?_append_left (by rw [Us_length]; omega), Us_get ls 3 (by omega), hw]
        have HA := Lib.hid hA
        have HC := Lib.hid hc
        have HM := Lib.hid hm
        have HLEN := Lib.hid hlen
        have HW := Lib.hid hw
        have hkn : 3 < 4 := by omega
        clear hA hc hm hlen hw hl hok hls hnn OW
        go_wp2
        go_loopg [39, 11] 4 (fun gg i f wq => ∃ t : Nat, t ≤ 4 ∧ gg = 4 - t ∧ i = .int .i64 t ∧ f = .bool (flW ls ks t) ∧ At wq g3 22 (Us (mixW ls ks t) ++ rest) ∧ Turned (fun b => b = g3) W0 wq)
        case atStart => exact ⟨0, by omega, rfl, rfl, rfl, by rw [mixW_zero]; exact HA.out, Turned.refl _ _⟩
        case round =>
          obtain ⟨t, ht, rfl, rfl, rfl, hA, hT⟩ := hrel
          have HTT := Lib.hid hT
          have HAA := Lib.hid hA
          have PK := TH.out.picks.kept hT (fun e => TH.out.picks.ne HA.out (by decide) e)
          by_cases hlt : t < 4
          · have g0 : wr.cell? ⟨g3, t, none⟩ = some (.int .u32 (U (wd ls t))) := by
              rw [hA.cell, List.getElem?_append_left (by rw [Us_length, mixW_len, HLEN.out]; exact hlt), Us_get _ t (by rw [mixW_len, HLEN.out]; exact hlt), wd_mixW ls ks t t (by rw [HLEN.out]; exact hlt), if_neg (by omega)]
            have f0 := hA.frozen t
            have k0 : wr.cell? ⟨pb, t, none⟩ = some (.int .u32 (U (wd ks t))) := by
              rw [PK.cell]
              exact Us_get ks t (by rw [HKL.out]; omega)
            have hlz : (t : Int) < 4 := by omega
            have hlz7 : (t : Int) < 7 := by omega
            have hz0 : (0 : Int) ≤ (t : Int) := by omega
            clear hA hT PK
            go_wp2
            refine wp_region_still_tail 11 (by kernel_rfl) (by decide +kernel) ?_
            simp only [List.take_succ_cons, List.take_zero, List.drop_succ_cons, List.drop_zero]
            change wpStill _ _ (World.drew _) _ _ _
            repeat still_step
            still_call (RP.out 4294967295#32 _ _ _)
            repeat still_step
            refine wpStill_nil ?_
            change wpList _ _ _ _ _ (World.drew _)
            go_upto_region 14 with fail
            obtain ⟨X, hX⟩ : ∃ X, X = (wr.setCell ⟨g3, t, none⟩ (.int .u32 (U (partB 4294967295#32 (wd ls t) (wd ks t))))).drew := ⟨_, rfl⟩
            rw [← hX]
            have AX : At X g3 22 (Us (mixW ls ks (t + 1)) ++ rest) := by
              rw [hX]
              refine ((HAA.out.put t _).drew).as ?_
              rw [List.set_append_left _ _ (by rw [Us_length, mixW_len, HLEN.out]; exact hlt), Us_set, mixW_set _ _ _ (by rw [HLEN.out]; exact hlt)]
            have TX : Turned (fun b => b = g3) W0 X := by rw [hX]; exact (HTT.out.setCell (p := ⟨g3, t, none⟩) (fun _ => rfl) _).drew
            have gx : X.cell? ⟨g3, t, none⟩ = some (.int .u32 (U (partB 4294967295#32 (wd ls t) (wd ks t)))) := by
              rw [AX.cell, List.getElem?_append_left (by rw [Us_length, mixW_len, HLEN.out]; exact hlt), Us_get _ t (by rw [mixW_len, HLEN.out]; exact hlt), wd_mixW ls ks (t + 1) t (by rw [HLEN.out]; exact hlt), if_pos (by omega)]
            have AXX := Lib.hid AX
            have TXX := Lib.hid TX
            clear hX AX TX g0 f0 k0
            cases hfl : flW ls ks t
            · have HFL := Lib.hid hfl
              clear hfl
              go_wp2
              go_roundg (4 - (t + 1))
              case measure => go_light; omega
              case rel => go_light; exact ⟨t + 1, by omega, rfl, by simp, by rw [flW_succ, HFL.out]; rfl, AXX.out, TXX.out⟩
            · have HFL := Lib.hid hfl
              clear hfl
              by_cases hy : partB 4294967295#32 (wd ls t) (wd ks t) = 4294967295#32
              · have HY := Lib.hid hy
                rw [hy] at gx
                clear hy
                go_wp2
                go_roundg (4 - (t + 1))
                case measure => go_light; omega
                case rel => go_light; exact ⟨t + 1, by omega, rfl, by simp, by rw [flW_succ, HFL.out, HY.out]; rfl, AXX.out, TXX.out⟩
              · have HY := Lib.hid hy
                have hu : ¬ U (partB 4294967295#32 (wd ls t) (wd ks t)) = 4294967295 := by rw [show (4294967295 : Int) = U 4294967295#32 from rfl, U_eq_iff]; exact hy
                clear hy
                go_wp2
                go_roundg (4 - (t + 1))
                case measure => go_light; omega
                case rel => go_light; exact ⟨t + 1, by omega, rfl, by simp, by rw [flW_succ, HFL.out, Bool.true_and, ← U_beq]; rfl, AXX.out, TXX.out⟩
          · obtain rfl : t = 4 := by omega
            have LSr := TH.out.list.kept hT (fun e => TH.out.list.ne HA.out (by decide) e)
            have Br : Below w.heap.size w wr := TH.out.below.trans (hT.below (fun b e => by rw [e]; exact HGB3.out (by omega)) TH.out.below.size)
            skip
            obtain ⟨vs, hvs⟩ : ∃ vs, vs = mixW ls ks 4 := ⟨_, rfl⟩
            have hvl : vs.length = 4 := by rw [hvs, mixW_len, HLEN.out]
            have hfb : flW ls ks 4 = freeB vs := by rw [hvs, ← HLEN.out]; exact flW_all ls ks
            rw [← hvs] at hA
            have gk : wr.cell? ⟨g3, 3, none⟩ = some (.int .u32 (U (wd vs 3))) := by
              rw [hA.cell, List.getElem?_append_left (by rw [Us_length]; omega), Us_get vs 3 (by omega)]
            have RV := ReadsU.of_at hA (cap := c3) (by rw [List.length_append, Us_length, hvl, ← HC.out, List.length_append, Us_length, HLEN.out]) HM.out
            rw [hvl] at RV
            have P3 := Lib.hid PK
            have LSS := Lib.hid LSr
            have BRR := Lib.hid Br
            have RVV := Lib.hid RV
            have HVL := Lib.hid hvl
            have FBB := Lib.hid hfb
            clear hA hT PK LSr Br RV hvs hvl
            by_cases hk : wd vs 3 = 1526644958#32
            · rw [hk] at gk
              clear hk hfb
              go_wp2
              go_roundg (2 - 2)
              case measure => go_light; omega
              case rel => go_light; exact ⟨2, by omega, rfl, by simp, ⟨P3.out, LSS.out, fun e => absurd e (by omega), fun e => absurd e (by omega), BRR.out⟩⟩
            · have hu : ¬ U (wd vs 3) = 1526644958 := by rw [show (1526644958 : Int) = U 1526644958#32 from rfl, U_eq_iff]; exact hk
              have hu1 : ¬ U (wd vs 3) = U 1526644958#32 := by rw [U_eq_iff]; exact hk
              have ER := Lib.hid (hdRd_torn4 HVL.out hk)
              rw [hfb]
              clear hk hfb
              cases fb : freeB vs
              · rw [fb] at ER
                clear fb
                go_wp2_with (first | (go_at_call 10; (refine (pread_any _ _ _ _ _ RVV.out (by omega)).mono ?_); rintro e w4 ⟨rfl, hb⟩; rw [pgRd_far (by rw [HVL.out]; omega)]; simp only [pgV, pgC, pg0]; have al := (Below.refl _ w4).alloc (Nat.le_refl _) (.cells (pgC pg0).toArray 28); have PK5 := Lib.hid ((P3.out.on hb).on al); have LS5 := Lib.hid ((LSS.out.on hb).on al); have RV5 := Lib.hid ((RVV.out.kept hb).kept al); have B5 := Lib.hid (below_then (below_then BRR.out hb) al); clear hb al) | (go_at_call 17; (refine (pcount_any _ _ _ _ _ RV5.out (by omega)).mono ?_); rintro e w6 ⟨rfl, hb⟩; rw [ER.out]; simp only [if_true, Bool.false_eq_true, if_false]; have PK6 := Lib.hid (PK5.out.on hb); have LS6 := Lib.hid (LS5.out.on hb); have B6 := Lib.hid (below_then B5.out hb); clear hb))
                go_roundg (2 - 2)
                case measure => go_light; omega
                case rel => go_light; exact ⟨2, by omega, rfl, by simp, ⟨PK6.out, LS6.out, fun e => absurd e (by omega), fun e => absurd e (by omega), B6.out⟩⟩
              · rw [fb] at ER
                clear fb
                go_wp2_with (first | (go_at_call 10; (refine (pread_any _ _ _ _ _ RVV.out (by omega)).mono ?_); rintro e w4 ⟨rfl, hb⟩; rw [pgRd_far (by rw [HVL.out]; omega)]; simp only [pgV, pgC, pg0]; have al := (Below.refl _ w4).alloc (Nat.le_refl _) (.cells (pgC pg0).toArray 28); have PK5 := Lib.hid ((P3.out.on hb).on al); have LS5 := Lib.hid ((LSS.out.on hb).on al); have RV5 := Lib.hid ((RVV.out.kept hb).kept al); have B5 := Lib.hid (below_then (below_then BRR.out hb) al); clear hb al) | (go_at_call 17; (refine (pcount_any _ _ _ _ _ RV5.out (by omega)).mono ?_); rintro e w6 ⟨rfl, hb⟩; rw [ER.out]; simp only [if_true, Bool.false_eq_true, if_false]; have PK6 := Lib.hid (PK5.out.on hb); have LS6 := Lib.hid (LS5.out.on hb); have B6 := Lib.hid (below_then B5.out hb); clear hb))
                go_roundg (2 - 2)
                case measure => go_light; omega
                case rel => go_light; exact ⟨2, by omega, rfl, by simp, ⟨PK6.out, LS6.out, fun e => absurd e (by omega), fun e => absurd e (by omega), B6.out⟩⟩
      · have hl : (hdWs x) = [] := hdWs_no hok
        have hnn : n3 = 0 := by rw [HN3.out, hl]; rfl
        rw [hnn] at l1
        clear l0
        clear hl hok hnn
        go_wp2
        go_roundg (2 - 2)
        case measure => go_light; omega
        case rel => go_light; exact ⟨2, by omega, rfl, by simp, ⟨TH.out.picks, TH.out.list, fun e => absurd e (by omega), fun e => absurd e (by omega), TH.out.below⟩⟩
end Go.Proofs.Ytkjgbjcdpifamaa
