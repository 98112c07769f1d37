/- The walk of LatestNone. -/
import Derived.Test.YtfpfcmgcfbkolaaLatAlive
import Derived.Deep.DeepCutAuto
namespace Go.Proofs.Ytfpfcmgcfbkolaa
open Go.RowKit Bm

theorem bks_set {cs : List BlkM} (hok : ∀ b ∈ cs, BlkOk b) {j k : Nat} (hj : j < cs.length) (hk : k < 66) {v : Value} {c : BlkM} (hc : (bkC (bkN cs j)).set k v = bkC c) : (bks cs).set (j * 66 + k) v = bks (cs.set j c) := by
  have e : cs = cs.take j ++ (bkN cs j :: cs.drop (j + 1)) := by
    have h1 : bkN cs j :: cs.drop (j + 1) = cs.drop j := by
      rw [List.drop_eq_getElem_cons hj]
      unfold bkN
      rw [List.getD_eq_getElem?_getD, List.getElem?_eq_getElem hj]
      rfl
    rw [h1, List.take_append_drop]
  have e2 : cs.set j c = cs.take j ++ (c :: cs.drop (j + 1)) := by rw [List.set_eq_take_append_cons_drop, if_pos hj]
  have hl : (bks (cs.take j)).length = j * 66 := by
    rw [bks_len (fun b hb => hok b (List.mem_of_mem_take hb)), List.length_take]
    omega
  have hb : BlkOk (bkN cs j) := hok _ (List.mem_of_getElem? (bkN_get hj))
  have f : ∀ x, bks (cs.take j ++ (x :: cs.drop (j + 1))) = bks (cs.take j) ++ (bkC x ++ bks (cs.drop (j + 1))) := fun x => by
    unfold bks
    rw [List.flatMap_append, List.flatMap_cons]
  rw [e2, f c, ← hc]
  conv => lhs; arg 1; rw [e]
  rw [f, List.set_append_right _ _ (by omega), hl, Nat.add_sub_cancel_left, List.set_append_left _ _ (by rw [bk_len hb]; exact hk)]
/-- No page of the first j blocks, nor of the first t places of block j, counts. -/
def Torn (cs : List BlkM) (j t : Nat) : Prop := ∀ b i, i < 8 → (b < j ∨ (b = j ∧ i < t)) → nm (bkN cs b).kinds i ≠ 1
theorem nm_set {ks : List Int} {t : Nat} (h : t < ks.length) (x : Int) (i : Nat) : nm (ks.set t x) i = if i = t then x else nm ks i := by
  unfold nm
  rw [List.getD_eq_getElem?_getD, List.getD_eq_getElem?_getD]
  by_cases e : i = t
  · subst e; rw [if_pos rfl, List.getElem?_set_self h]; rfl
  · rw [if_neg e, List.getElem?_set_ne (Ne.symm e)]
theorem torn_set {cs : List BlkM} {j t : Nat} (hj : j < cs.length) (ht : t < 8) (hok : BlkOk (bkN cs j)) (h : Torn cs j t) : Torn (cs.set j { bkN cs j with kinds := (bkN cs j).kinds.set t 2 }) j (t + 1) := by
  intro b i hi8 hbi
  rw [bkN_set hj]
  by_cases e : b = j
  · rw [if_pos e]
    show nm ((bkN cs j).kinds.set t 2) i ≠ 1
    rw [nm_set (by rw [hok.k]; exact ht)]
    by_cases e2 : i = t
    · rw [if_pos e2]; omega
    · rw [if_neg e2]
      exact h j i hi8 (.inr ⟨rfl, by omega⟩)
  · rw [if_neg e]
    exact h b i hi8 (by omega)
theorem torn_skip {cs : List BlkM} {j t : Nat} (hk : nm (bkN cs j).kinds t ≠ 1) (h : Torn cs j t) : Torn cs j (t + 1) := by
  intro b i hi8 hbi
  by_cases e : b = j ∧ i = t
  · rw [e.1, e.2]; exact hk
  · exact h b i hi8 (by omega)

set_option maxRecDepth 100000 in
set_option maxHeartbeats 2000000 in
theorem latestNone_walk (A : Option Addr) (n cap : Nat) (bs : List BlkM) (a1 : Int) (_b1 : (Lit.int .i64 a1).wf = true) (w : World) (hA : ReadsB w A n cap bs) : Calls Try.prog 7 #[.slice A n cap, .int .i64 a1] w fun e w' => e = .returned (.bool true) ∧ Below w.heap.size w w' := by
  have hz := spl_zero
  have HA := Lib.hid hA
  have hnm : (n : Int) ≤ 9223372036854775807 := by have := hA.le; have := hA.max; unfold maxLen at *; omega
  have AL := Lib.hid (alive7_any w)
  have hlen := hA.len
  clear hA
  by_cases hn : n ≤ 12
  · have hn' : (n : Int) ≤ 12 := by omega
    obtain ⟨s, hs⟩ := U_of (a := a1 % 4294967296) (by omega) (by omega)
    have NE : Hid (a1 < 0 ∨ (n : Int) ≤ a1 → lNeeded (cnt bs) a1 = []) := Lib.hid (fun h => needed_none (by rw [hlen]; exact h))
    have HLN := Lib.hid hlen
    clear hlen
    have cases3 : a1 < 0 ∨ (¬ a1 < 0 ∧ (n : Int) ≤ a1) ∨ (¬ a1 < 0 ∧ ¬ (n : Int) ≤ a1) := by omega
    go_enter Try.func7, Try.ntmps7
    go_upto_region 6 with (first
      | (go_at_call 9; (refine AL.out.mono ?_); rintro e w1 ⟨rfl, hb⟩; have HB := Lib.hid hb; have HS := Lib.hid hb.size; have HL := Lib.hid (HA.out.kept hb); clear hb)
      | (go_at_call 10; (refine (Theirs.any_own _ _ _ _ _ HL.out (by omega)).mono ?_); rintro e w2 ⟨B2, c2, rfl, ho, hb⟩; have HOW := Lib.hid ho; have HB := Lib.hid (below_then HB.out hb); clear ho hb))
    go_cut [31] (fun s31 wx => s31 = .bool false ∧ wx.ownsRow w1.heap.size 60 66 (.slice B2 n c2) n (bks bs) ∧ Below w.heap.size w wx)
    case first =>
      obtain ⟨_, _, e0, hX⟩ := ReadsB.of_own HOW.out HL.out.ok HL.out.len.symm
      rw [HL.out.len] at e0 hX
      injection e0 with e1 _ e3
      subst e1 e3
      have HX := Lib.hid hX
      clear hX
      rcases cases3 with h1 | ⟨h1, h2⟩ | ⟨h1, h2⟩
      all_goals
        go_wp2_with (go_at_call 15; (refine (lneeded_any _ _ _ _ _ _ HX.out (by omega)).mono ?_); rintro e w3 ⟨B3, c3, rfl, hr, hb⟩; rw [NE.out (by omega)]; rw [show ([] : List PlM).length = 0 from rfl]; have HOW := Lib.hid (own_below HOW.out hb); have HB := Lib.hid (below_then HB.out hb); clear hr hb)
        go_meet
        exact ⟨rfl, HOW.out, HB.out⟩
    case rest =>
      obtain ⟨rfl, how, hbw⟩ := hcut
      have HOW := Lib.hid how
      have HB := Lib.hid hbw
      clear how hbw cases3
      go_wp2_with fail
      go_loopg [34] n (fun g i wr => ∃ j : Nat, j ≤ n ∧ g = n - j ∧ i = .int .i64 j ∧ ∃ cs : List BlkM, cs.length = n ∧ (∀ b ∈ cs, BlkOk b) ∧ wr.ownsRow w1.heap.size 60 66 (.slice B2 n c2) n (bks cs) ∧ Below w.heap.size w wr ∧ Torn cs j 0)
      case atStart => exact ⟨0, by omega, rfl, rfl, bs, HL.out.len, HL.out.ok, HOW.out, HB.out, fun b i _ h => by omega⟩
      case round =>
        obtain ⟨j, hj, rfl, rfl, cs, hcl, hok, ho, hB, ht⟩ := hrel
        by_cases hltj : j < n
        · have j0 : (0 : Int) ≤ (j : Int) := by omega
          have j1 : (j : Int) < (n : Int) := by omega
          obtain ⟨g, rfl⟩ : ∃ g, B2 = some ⟨g, 0, none⟩ := by
            rcases ho.2 with ⟨_, e⟩ | ⟨g, cap', cur, e, _⟩
            · omega
            · injection e with e1 _ _
              exact ⟨g, e1⟩
          have HST := Lib.hid (And.intro hcl (And.intro hok (And.intro ho (And.intro hB ht))))
          clear hcl hok ho hB ht
          go_wp2
          go_loopg [37] 8 (fun g' i wq => ∃ t : Nat, t ≤ 8 ∧ g' = 8 - t ∧ i = .int .i64 t ∧ ∃ cs : List BlkM, cs.length = n ∧ (∀ b ∈ cs, BlkOk b) ∧ wq.ownsRow w1.heap.size 60 66 (.slice (some ⟨g, 0, none⟩) n c2) n (bks cs) ∧ Below w.heap.size w wq ∧ Torn cs j t)
          case atStart => exact ⟨0, by omega, rfl, rfl, cs, HST.out.1, HST.out.2.1, HST.out.2.2.1, HST.out.2.2.2.1, HST.out.2.2.2.2⟩
          case round =>
            clear HST
            obtain ⟨t, htl, rfl, rfl, ds, hcl, hok, ho, hB, ht⟩ := hrel
            by_cases hlt : t < 8
            · have t0 : (0 : Int) ≤ (t : Int) := by omega
              have t1 : (t : Int) < 8 := by omega
              have hj' : j < ds.length := by omega
              have hbok : BlkOk (bkN ds j) := hok _ (List.mem_of_getElem? (bkN_get hj'))
              obtain ⟨rest, hA3, hl3, hc1, hc2, hg3⟩ := at_of_own ho
              have hin : j * 66 + (2 + t) < (bks ds).length := by rw [bks_len hok]; omega
              have c0 := hA3.cell (j * 66 + (2 + t))
              rw [List.getElem?_append_left hin, bks_get hok (bkN_get hj') (2 + t) _ (bk_kind hbok t hlt), ← Nat.add_assoc] at c0
              by_cases hk : nm (bkN ds j).kinds t = 1
              · have f0 := hA3.frozen (j * 66 + (2 + t))
                rw [← Nat.add_assoc] at f0
                rw [hk] at c0
                have A4 := hA3.put (j * 66 + (2 + t)) (.int .i64 2)
                rw [List.set_append_left _ _ hin, bks_set hok hj' (by omega) (bk_setKind hbok t hlt 2), ← Nat.add_assoc] at A4
                have HT := Lib.hid (torn_set hj' hlt hbok ht)
                have hok' : ∀ b ∈ ds.set j { bkN ds j with kinds := (bkN ds j).kinds.set t 2 }, BlkOk b := fun b hb => by
                  rcases List.mem_or_eq_of_mem_set hb with h | h
                  · exact hok b h
                  · rw [h]; exact ⟨by show ((bkN ds j).kinds.set t 2).length = 8; rw [List.length_set]; exact hbok.k, hbok.p⟩
                have HOK' := Lib.hid hok'
                have hll : (bks (ds.set j { bkN ds j with kinds := (bkN ds j).kinds.set t 2 })).length = (bks ds).length := by rw [bks_len hok', bks_len hok, List.length_set]
                have HO' := Lib.hid (own_of_at A4 hg3 (by rw [hll]; exact ho.1) (by rw [List.length_append, hll, ← List.length_append]; exact hl3) hc1 hc2)
                have HCL := Lib.hid hcl
                have hgw : w.heap.size ≤ g := by have := HS.out; omega
                have HB' := Lib.hid (hB.setCell (p := ⟨g, j * 66 + 2 + t, none⟩) hgw (.int .i64 2))
                clear hcl hok ho hB ht hbok hA3 hl3 hc1 hc2 hg3 hin A4 hok' hll hk hj' hgw
                go_wp2
                go_roundg (8 - (t + 1))
                case measure => go_light; omega
                case rel =>
                  go_light
                  exact ⟨t + 1, by omega, rfl, by go_num, _, by rw [List.length_set]; exact HCL.out, HOK'.out, HO'.out, HB'.out, HT.out⟩
              · have hk' : (nm (bkN ds j).kinds t == 1) = false := by rw [beq_eq_false_iff_ne]; exact hk
                have HST := Lib.hid (And.intro hcl (And.intro hok (And.intro ho (And.intro hB (torn_skip hk ht)))))
                clear hcl hok ho hB ht hbok hA3 hl3 hc1 hc2 hg3 hin hk hj'
                go_wp2
                go_roundg (8 - (t + 1))
                case measure => go_light; omega
                case rel =>
                  go_light
                  exact ⟨t + 1, by omega, rfl, by go_num, ds, HST.out.1, HST.out.2.1, HST.out.2.2.1, HST.out.2.2.2.1, HST.out.2.2.2.2⟩
            · obtain rfl : t = 8 := by omega
              have HST := Lib.hid (And.intro hcl (And.intro hok (And.intro ho (And.intro hB ht))))
              clear hcl hok ho hB ht
              go_wp2
              go_roundg (n - (j + 1))
              case measure => go_light; omega
              case rel =>
                go_light
                exact ⟨j + 1, by omega, rfl, by go_num, ds, HST.out.1, HST.out.2.1, HST.out.2.2.1, HST.out.2.2.2.1, fun b i h8 h => HST.out.2.2.2.2 b i h8 (by omega)⟩
        · obtain rfl : j = n := by omega
          have hcn : cnt cs = [] := cnt_none (fun b i h1 h2 => ht b i h2 (.inl (by omega)))
          obtain ⟨_, _, e0, hX⟩ := ReadsB.of_own ho hok hcl.symm
          rw [hcl] at e0 hX
          injection e0 with e1 _ e3
          subst e1 e3
          have HX := Lib.hid hX
          have HB3 := Lib.hid hB
          have HCN := Lib.hid hcn
          clear hcl hok ho hB ht hX hcn
          go_wp2_with (first
            | (go_at_call 19; (refine (lfind_any none 0 0 [] s _ (ReadsL.none _) (by omega)).mono ?_); rintro e w6 ⟨rfl, hb⟩; rw [show lFind [] s = none from rfl]; dsimp only [Option.getD, Option.isSome]; unfold plV; have HX := Lib.hid (HX.out.kept hb); have HB3 := Lib.hid (below_then HB3.out hb); clear hb)
            | (refine wpList_stm (pre := []) (post := []) (xs := plC pl0) (ys := plC pl0) _ _ rfl rfl rfl rfl spl_size (by rfl) (plC_len _) (plC_one _) rfl (by simp) (At.news w6 _ (plC pl0)) ?_; intro V A3 T3; rw [List.nil_append, List.append_nil] at A3; have hb := ((Below.refl _ w6).alloc (Nat.le_refl _) (.cells (plC pl0).toArray 42)).trans (T3.below (fun k hk => by unfold Just at hk; omega) (by simp)); have HX := Lib.hid (HX.out.kept hb); have HB3 := Lib.hid (below_then HB3.out hb); clear A3 T3 hb)
            | (go_at_call 13; (refine (lof_any _ _ _ _ _ HX.out (by omega)).mono ?_); rintro e w7 ⟨B7, c7, rfl, hr, hb⟩; rw [HCN.out]; rw [show (lOf []).length = 0 from rfl]; have HX := Lib.hid (HX.out.kept hb); have HB3 := Lib.hid (below_then HB3.out hb); clear hr hb)
            | (go_at_call 17; (refine (ltop_any _ _ _ _ _ HX.out (by omega)).mono ?_); rintro e w8 ⟨rfl, hb⟩; rw [HCN.out]; rw [show U (lTop []) = 0 from rfl]; have HX := Lib.hid (HX.out.kept hb); have HB3 := Lib.hid (below_then HB3.out hb); clear hb)
            | (go_at_call 15; (refine (lneeded_any _ _ _ _ _ _ HX.out (by omega)).mono ?_); rintro e w9 ⟨B9, c9, rfl, hr, hb⟩; rw [HCN.out]; rw [show (lNeeded [] a1).length = 0 from rfl]; have HB3 := Lib.hid (below_then HB3.out hb); clear hr hb))
          go_ret
          exact ⟨by simp, HB3.out⟩
  · have hn' : ¬ (n : Int) ≤ 12 := by omega
    go_enter Try.func7, Try.ntmps7
    go_wp2_with (go_at_call 9; (refine AL.out.mono ?_); rintro e w1 ⟨rfl, hb⟩; have HB1 := Lib.hid hb; clear hb)
    go_ret
    exact ⟨rfl, HB1.out⟩
end Go.Proofs.Ytfpfcmgcfbkolaa
