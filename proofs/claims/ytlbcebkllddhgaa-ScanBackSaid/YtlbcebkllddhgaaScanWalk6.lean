/- The walk of ScanBack. -/
import Derived.Test.YtlbcebkllddhgaaScanAlive
import Derived.Test.YtlbcebkllddhgaaScanEq
import Derived.Test.YtlbcebkllddhgaaScanBackF
import Derived.Deep.QuietTactic
import Derived.BigQuiet
namespace Go.Proofs.Ytlbcebkllddhgaa
open Go.RowKit Bm

attribute [local go_sem ↓] Go.wp_at_zero Go.wp_at_succ ldS_eq ldR_eq

set_option maxRecDepth 100000 in
set_option maxHeartbeats 8000000 in
theorem scanBack_walk (A : Option Addr) (n cap : Nat) (ll : List (List PageM)) (w : World) (hA : ReadsPP w A n cap ll) : Calls Try.prog 5 #[.slice A n cap] w fun e w' => e = .returned (.bool true) ∧ Below w.heap.size w w' := by
  have HA := Lib.hid hA
  have hlen := hA.len
  have hnm : (n : Int) ≤ 9223372036854775807 := by have := hA.le; have := hA.max; unfold maxLen at *; omega
  have AL := Lib.hid (alive6_any w)
  clear hA
  by_cases hn0 : n = 0
  · subst hn0
    go_enter Try.func5, Try.ntmps5
    go_wp2_with (go_at_call 9; (refine AL.out.mono ?_); rintro e w1 ⟨rfl, hb⟩; have HB1 := Lib.hid hb; clear hb)
    go_ret
    exact ⟨rfl, HB1.out⟩
  by_cases hn : n ≤ 8
  · have hn' : (n : Int) ≤ 8 := by omega
    have hn0' : ¬ (n : Int) = 0 := by omega
    have hn0'' : ((n : Int) == 0) = false := by rw [beq_eq_false_iff_ne]; omega
    have SX := Lib.hid (scOf_built ll n hlen (by omega) hn)
    have CN := Lib.hid (counts_back ll (n - 1) (by omega))
    have hn1 : n - 1 + 1 = n := by omega
    rw [hn1] at CN
    obtain ⟨bs, hbs⟩ : ∃ bs, bs = (List.range n).map (fun i => blkF (ll.getD i []) i) := ⟨_, rfl⟩
    have hbl : bs.length = n := by rw [hbs]; simp
    have BN := Lib.hid (fun i (h : i < n) => found_pos ll n i h)
    rw [← hbs] at SX CN BN
    clear hbs hn1
    go_enter Try.func5, Try.ntmps5
    go_wp2_with (first
      | (go_at_call 9; (refine AL.out.mono ?_); rintro e w1 ⟨rfl, hb⟩; have HB1 := Lib.hid hb; clear hb)
      | (go_at_call 21; (refine (built_any _ _ _ _ _ (HA.out.kept HB1.out) (by omega)).mono ?_); rintro e w2 ⟨B2, c2, rfl, hr, hb⟩; have HR2 := Lib.hid hr; have HB2 := Lib.hid (below_then HB1.out hb); clear hr hb)
      | (go_at_call 10; (refine (swords_any _ _ _ _ _ HR2.out).mono ?_); rintro e w4 ⟨B4, c4, rfl, hr, hb⟩; rw [SX.out] at hr ⊢; dsimp only at hr ⊢; rw [hbl] at hr ⊢; have HX4 := Lib.hid hr; have HB4 := Lib.hid (below_then HB2.out hb); have HA4 := Lib.hid (HA.out.kept (below_then HB2.out hb)); clear hr hb))
    go_loopg [37] n (fun g i wr => ∃ j : Nat, j ≤ n ∧ g = n - j ∧ i = .int .i64 j ∧ Below w4.heap.size w4 wr)
    case atStart => exact ⟨0, by omega, rfl, rfl, Below.refl _ _⟩
    case round =>
      obtain ⟨j, hj, rfl, rfl, hB⟩ := hrel
      by_cases hltj : j < n
      · obtain ⟨g, off, rfl, hg, hrg⟩ := HX4.out.at_ hltj
        obtain ⟨ad, Aj, nj, cj, rfl, had, hcell0, hP⟩ := HA4.out.at_ hltj
        have hcell := (hB.cell (p := ad.add j) (by rw [add_block]; exact had)).trans hcell0
        rw [BN.out j hltj] at hrg
        obtain ⟨L, hL⟩ : ∃ L, L = ll.getD j [] := ⟨_, rfl⟩
        rw [← hL] at hP hrg
        have HRG := Lib.hid hrg
        have HG := Lib.hid hg
        have HP := Lib.hid hP
        have KC := Lib.hid (fun W (hW : Below w4.heap.size w4 W) => range_kept HRG.out (hW.block g HG.out))
        have c0 : wr.cell? ⟨g, off + j * 66, none⟩ = some (.int .i64 1) := KC.out wr hB 0 _ rfl
        have c1 : wr.cell? ⟨g, off + j * 66 + 1, none⟩ = some (.int .u32 (j : Int)) := by
          rw [← U_ofNat j (by omega)]
          exact KC.out wr hB 1 _ rfl
        have i0 : (0 : Int) ≤ (j : Int) := by omega
        have i1 : (j : Int) < (n : Int) := by omega
        have hj32 : (j : Int) % 4294967296 = (j : Int) := by omega
        have HB := Lib.hid hB
        have hnj : (nj : Int) ≤ 9223372036854775807 := by have := hP.le; have := hP.max; unfold maxLen at *; omega
        clear hrg hg hP hcell0 hL hB
        go_wp2
        go_loopg [7, 58] 8 (fun g l i wq => ∃ t : Nat, t ≤ 8 ∧ g = 8 - t ∧ l = .int .i64 (lastK L t) ∧ i = .int .i64 t ∧ Below w4.heap.size w4 wq)
        case atStart => exact ⟨0, by omega, rfl, rfl, rfl, HB.out⟩
        case round =>
          clear c0 c1 hcell
          obtain ⟨t, ht, rfl, rfl, rfl, hB5⟩ := hrel
          have HB5 := Lib.hid hB5
          clear hB5
          by_cases hlt : t < 8
          · have t0 : (0 : Int) ≤ (t : Int) := by omega
            have t1 : (t : Int) < 8 := by omega
            have kd : ∀ W, Below w4.heap.size w4 W → W.cell? ⟨g, off + j * 66 + 2 + t, none⟩ = some (.int .i64 (if pgIs L t then 1 else 0)) := fun W hW => by
              have := KC.out W hW (2 + t) _ (bk_kind (blkF_ok L j) t hlt)
              rwa [blkF_kind L j t hlt, ← Nat.add_assoc] at this
            have KD := Lib.hid kd
            clear kd
            by_cases hin : t < nj
            · have t2 : (t : Int) < (nj : Int) := by omega
              obtain ⟨gp, op, rfl, hrp⟩ := HP.out.at_ hin
              have hgp : gp < w4.heap.size := by
                have h0 := hrp 0 _ (show (pgC (pgN L t))[0]? = some (.int .u32 (U (pgN L t).s)) from rfl)
                exact World.block_lt_of_cell? _ _ h0
              have CE := Lib.hid (fun W (hW : Below w4.heap.size w4 W) => range_kept hrp (hW.block gp hgp))
              obtain ⟨p, hpe⟩ : ∃ p, p = pgN L t := ⟨_, rfl⟩
              have hlL : t < L.length := by rw [HP.out.len]; exact hin
              have hi : pgIs L t = pgOk p := by unfold pgIs; rw [decide_eq_true hlL, Bool.true_and, hpe]
              rw [← hpe] at CE
              have KA := CE.out wr HB5.out 0 _ (show (pgC p)[0]? = some (.int .u32 (U p.s)) from rfl)
              have KB := CE.out wr HB5.out 1 _ (show (pgC p)[1]? = some (.int .u32 (U p.q)) from rfl)
              have KCC := CE.out wr HB5.out 2 _ (show (pgC p)[2]? = some (.bool p.g) from rfl)
              have KDD := CE.out wr HB5.out 3 _ (show (pgC p)[3]? = some (.int .u32 (U p.d0)) from rfl)
              have KE := CE.out wr HB5.out 4 _ (show (pgC p)[4]? = some (.int .u32 (U p.d1)) from rfl)
              have KF := CE.out wr HB5.out 5 _ (show (pgC p)[5]? = some (.int .u32 (U p.d2)) from rfl)
              have KG := CE.out wr HB5.out 6 _ (show (pgC p)[6]? = some (.int .u32 (U p.d3)) from rfl)
              rw [Nat.add_zero] at KA
              have RR := Lib.hid (fun W => rright_any p W)
              unfold pgV pgC at RR
              have PB : pgIs L t = true → ∃ pre post, pre.length = 10 + 7 * t ∧ bkC (blkF L j) = pre ++ (pgC p ++ post) := fun h => by
                obtain ⟨pre, post, h1, h2, _⟩ := bk_page (blkF_ok L j) t hlt
                rw [blkF_page L j t hlt, if_pos h, ← hpe] at h2
                exact ⟨pre, post, h1, h2⟩
              have HPB := Lib.hid PB
              clear hrp hgp hpe hlL PB
              go_wp2_with (go_at_call 22; (refine (RR.out _).mono ?_); rintro e w5 ⟨rfl, hb⟩; have HB6 := Lib.hid (below_then HB5.out hb); clear hb)
              cases hok : pgOk p
              · have k0 := KD.out _ HB6.out
                rw [hi, hok, if_neg (by simp)] at k0
                have hK : lastK L (t + 1) = lastK L t := by
                  conv => lhs; unfold lastK
                  rw [hi, hok, if_neg (by simp)]
                have HK := Lib.hid hK
                clear hi hK KA KB KCC KDD KE KF KG
                go_wp2_with fail
                go_quiet (fail)
                have HB7 := Lib.hid (HB6.out.trans (below_drewN' _ _ nq))
                go_wp2
                go_roundg (8 - (t + 1))
                case measure => go_light; omega
                case rel =>
                  go_light
                  exact ⟨t + 1, by omega, rfl, by rw [HK.out], by go_num, HB7.out⟩
              · obtain ⟨pre, post, hpre, hcs⟩ := HPB.out (by rw [hi, hok])
                have k0 := KD.out _ HB6.out
                rw [hi, hok, if_pos rfl] at k0
                have hK : lastK L (t + 1) = t + 1 := by
                  conv => lhs; unfold lastK
                  rw [hi, hok, if_pos rfl]
                have HK := Lib.hid hK
                have fld : ∀ i v, (pgC p)[i]? = some v → w5.cell? ⟨g, off + j * 66 + 10 + t * 7 + i, none⟩ = some v := fun i v hv => by
                  have := KC.out _ HB6.out (10 + 7 * t + i) v (by
                    rw [hcs, ← hpre, List.getElem?_append_right (by omega), Nat.add_sub_cancel_left, List.getElem?_append_left (List.getElem?_eq_some_iff.1 hv).1]
                    exact hv)
                  rwa [show off + j * 66 + (10 + 7 * t + i) = off + j * 66 + 10 + t * 7 + i by omega] at this
                have FA := fld 0 _ (show (pgC p)[0]? = some (.int .u32 (U p.s)) from rfl)
                have FB := fld 1 _ (show (pgC p)[1]? = some (.int .u32 (U p.q)) from rfl)
                have FC := fld 2 _ (show (pgC p)[2]? = some (.bool p.g) from rfl)
                have FD := fld 3 _ (show (pgC p)[3]? = some (.int .u32 (U p.d0)) from rfl)
                have FE := fld 4 _ (show (pgC p)[4]? = some (.int .u32 (U p.d1)) from rfl)
                have FF := fld 5 _ (show (pgC p)[5]? = some (.int .u32 (U p.d2)) from rfl)
                have FG := fld 6 _ (show (pgC p)[6]? = some (.int .u32 (U p.d3)) from rfl)
                rw [Nat.add_zero] at FA
                have GA := CE.out _ HB6.out 0 _ (show (pgC p)[0]? = some (.int .u32 (U p.s)) from rfl)
                have GB := CE.out _ HB6.out 1 _ (show (pgC p)[1]? = some (.int .u32 (U p.q)) from rfl)
                have GC := CE.out _ HB6.out 2 _ (show (pgC p)[2]? = some (.bool p.g) from rfl)
                have GD := CE.out _ HB6.out 3 _ (show (pgC p)[3]? = some (.int .u32 (U p.d0)) from rfl)
                have GE := CE.out _ HB6.out 4 _ (show (pgC p)[4]? = some (.int .u32 (U p.d1)) from rfl)
                have GF := CE.out _ HB6.out 5 _ (show (pgC p)[5]? = some (.int .u32 (U p.d2)) from rfl)
                have GG := CE.out _ HB6.out 6 _ (show (pgC p)[6]? = some (.int .u32 (U p.d3)) from rfl)
                rw [Nat.add_zero] at GA
                have eq : ∀ W : World, (Op.equalIn 10000 45 (.agg #[.int .u32 (U p.s), .int .u32 (U p.q), .bool p.g, .int .u32 (U p.d0), .int .u32 (U p.d1), .int .u32 (U p.d2), .int .u32 (U p.d3)]) (.agg #[.int .u32 (U p.s), .int .u32 (U p.q), .bool p.g, .int .u32 (U p.d0), .int .u32 (U p.d1), .int .u32 (U p.d2), .int .u32 (U p.d3)])).run Try.prog W = .ok true W := fun W =>
                  (run_eq_rpage 9997 _ _ _ _ _ _ _ _ _ _ _ _ _ _ W).trans (by rw [pg_dec, decide_eq_true rfl])
                clear hi hK KA KB KCC KDD KE KF KG hcs fld hpre
                go_wp2_with fail
                go_quiet (fail)
                have HB7 := Lib.hid (HB6.out.trans (below_drewN' _ _ nq))
                go_wp2
                go_roundg (8 - (t + 1))
                case measure => go_light; omega
                case rel =>
                  go_light
                  exact ⟨t + 1, by omega, rfl, by rw [HK.out]; go_num, by go_num, HB7.out⟩
            · have hin' : ¬ (t : Int) < (nj : Int) := by omega
              have hi : pgIs L t = false := by unfold pgIs; rw [decide_eq_false (by rw [HP.out.len]; exact hin), Bool.false_and]
              have k0 := KD.out _ HB5.out
              rw [hi, if_neg (by simp)] at k0
              have hK : lastK L (t + 1) = lastK L t := by
                conv => lhs; unfold lastK
                rw [hi, if_neg (by simp)]
              have HK := Lib.hid hK
              clear hi hK
              go_wp2_with fail
              go_quiet (fail)
              have HB7 := Lib.hid (HB5.out.trans (below_drewN' _ _ nq))
              go_wp2
              go_roundg (8 - (t + 1))
              case measure => go_light; omega
              case rel =>
                go_light
                exact ⟨t + 1, by omega, rfl, by rw [HK.out], by go_num, HB7.out⟩
          · obtain rfl : t = 8 := by omega
            obtain ⟨q, hq⟩ : ∃ q, q = lastK L 8 := ⟨_, rfl⟩
            have hq8 : q ≤ 8 := by rw [hq]; exact lastK_le L 8
            have hN : bkNext (blkF L j) = if q = 8 then -1 else (q : Int) := by rw [blkF_next, hq]
            rw [← hq]
            have HOK := blkF_ok L j
            obtain ⟨b, hb⟩ : ∃ b, b = blkF L j := ⟨_, rfl⟩
            rw [← hb] at HOK hN KC
            have HL := Lib.hid (bk_len HOK)
            have lx : ∀ W, Below w4.heap.size w4 W → (op_ex (ldB 43) (.pointer (some ⟨g, off + j * 66, none⟩)) W).choose = .ok (.value (.agg (bkC b).toArray)) W := fun W hW => ldS_at (KC.out W hW) HL.out
            have N1 := fun W => snext_any b HOK W
            have E1 := fun W => sempty_any b HOK W
            unfold bkEmpty at E1
            rw [hN] at N1 E1
            have S0 := HB5.out
            clear hb hq hN
            by_cases h8 : q = 8
            · subst h8
              rw [if_pos rfl] at N1 E1
              have N1' := Lib.hid N1
              have E1' := Lib.hid E1
              unfold bkV at N1' E1'
              clear N1 E1
              go_wp2_with (first
                | (go_at_call 16; (refine (N1'.out _).mono ?_); rintro e v1 ⟨rfl, hb⟩; have S1 := below_then S0 hb; clear hb)
                | (go_at_call 18; (refine (E1'.out _).mono ?_); rintro e v2 ⟨rfl, hb⟩; have S2 := below_then S1 hb; clear hb))
              have HS2 := Lib.hid S2
              go_wp2
              go_roundg (n - (j + 1))
              case measure => go_light; omega
              case rel =>
                go_light
                exact ⟨j + 1, by omega, rfl, by go_num, HS2.out⟩
            · have q8 : (q : Int) < 8 := by omega
              have q8' : ((q : Int) == 8) = false := by rw [beq_eq_false_iff_ne]; omega
              have q0 : (0 : Int) ≤ (q : Int) := by omega
              rw [if_neg h8] at N1 E1
              have hE : decide ((q : Int) = 0) = ((q : Int) == 0) := rfl
              rw [hE] at E1
              have N1' := Lib.hid N1
              have E1' := Lib.hid E1
              unfold bkV at N1' E1'
              clear N1 E1 hE
              go_wp2_with (first
                | (go_at_call 16; (refine (N1'.out _).mono ?_); rintro e v1 ⟨rfl, hb⟩; have S1 := below_then S0 hb; clear hb)
                | (go_at_call 18; (refine (E1'.out _).mono ?_); rintro e v2 ⟨rfl, hb⟩; have S2 := below_then S1 hb; clear hb))
              have HS2 := Lib.hid S2
              go_wp2
              go_roundg (n - (j + 1))
              case measure => go_light; omega
              case rel =>
                go_light
                exact ⟨j + 1, by omega, rfl, by go_num, HS2.out⟩
      · obtain rfl : j = n := by omega
        have hc : U (BitVec.ofNat 32 (j - 1)) = (j : Int) - 1 := by rw [U_ofNat _ (by omega)]; omega
        have hm : ((j : Int) - 1) % 4294967296 = (j : Int) - 1 := by omega
        have hcn := CN.out
        have HX5 := Lib.hid (HX4.out.kept hB)
        have HB5 := Lib.hid (below_then HB4.out hB)
        go_wp2_with (go_at_call 14; (refine (scounts_any _ _ _ _ _ HX5.out (by omega)).mono ?_); rintro e w6 ⟨rfl, hb⟩; rw [hcn, hc]; have HB6 := Lib.hid (below_then HB5.out hb); clear hb)
        go_ret
        exact ⟨by simp, HB6.out⟩
  · have hn' : ¬ (n : Int) ≤ 8 := by omega
    go_enter Try.func5, Try.ntmps5
    go_wp2_with (go_at_call 9; (refine AL.out.mono ?_); rintro e w1 ⟨rfl, hb⟩; have HB1 := Lib.hid hb; clear hb)
    go_ret
    exact ⟨rfl, HB1.out⟩
end Go.Proofs.Ytlbcebkllddhgaa
