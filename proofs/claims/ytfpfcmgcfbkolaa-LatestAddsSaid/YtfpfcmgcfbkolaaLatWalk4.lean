/- The walk of LatestAdds. -/
import Derived.Test.YtfpfcmgcfbkolaaLatHeld
namespace Go.Proofs.Ytfpfcmgcfbkolaa
open Go.RowKit Bm

attribute [local go_sem ↓] Go.wp_at_zero Go.wp_at_succ ldPS_eq

set_option maxRecDepth 100000 in
theorem run_buildH (w : World) : (Instr.build 60 #[(0, .int .i64 1)]).run Try.prog w = .ok (.agg (bkC { bk0 with head := 1 }).toArray) w := by kernel_rfl
set_option maxRecDepth 100000 in
theorem run_buildSQ (s q : BitVec 32) (w : World) : (Instr.build 40 #[(0, .int .u32 (U s)), (1, .int .u32 (U q))]).run Try.prog w = .ok (.agg (pgC ⟨s, q, false, 0#32, 0#32, 0#32, 0#32⟩).toArray) w := by
  unfold pgC
  simp only
  generalize U s = s
  generalize U q = q
  kernel_rfl
section
variable {ops : Array Oper} {rest : List Oper} {o : Oper} {a : Go.Act} {w : World} {Q : Exit → Go.Act → World → Prop}
theorem wpList_buildH (x : Operand) (hgd : o.guard = none) (ho : o.op = .build 60 #[(0, x)]) (hx : a.eval x = .int .i64 1)
    (hK : wpList Try.prog ops Q rest (a.put o.dst (.agg (bkC { bk0 with head := 1 }).toArray)) w) : wpList Try.prog ops Q (o :: rest) a w :=
  wpList_plain hgd fun K hK' => by
    unfold Oper.wp execOp
    simp only [ho, List.map_toArray, List.map_cons, List.map_nil, hx, Sem.run_bind, run_buildH, Result.andThen_ok]
    exact hK' _ _ hK
theorem wpList_buildSQ (x y : Operand) (s q : BitVec 32) (hgd : o.guard = none) (ho : o.op = .build 40 #[(0, x), (1, y)]) (hx : a.eval x = .int .u32 (U s)) (hy : a.eval y = .int .u32 (U q))
    (hK : wpList Try.prog ops Q rest (a.put o.dst (.agg (pgC ⟨s, q, false, 0#32, 0#32, 0#32, 0#32⟩).toArray)) w) : wpList Try.prog ops Q (o :: rest) a w :=
  wpList_plain hgd fun K hK' => by
    unfold Oper.wp execOp
    simp only [ho, List.map_toArray, List.map_cons, List.map_nil, hx, hy, Sem.run_bind, run_buildSQ, Result.andThen_ok]
    exact hK' _ _ hK
end
def blkH : BlkM := { bk0 with head := 1 }
def blkK : BlkM := { blkH with kinds := blkH.kinds.set 0 1 }
theorem blkH_ok : BlkOk blkH := ⟨rfl, rfl⟩
theorem blkK_ok : BlkOk blkK := ⟨rfl, rfl⟩
theorem blkK_pages (s q : BitVec 32) : { blkK with pages := blkK.pages.set 0 ⟨s, q, false, 0#32, 0#32, 0#32, 0#32⟩ } = blk1 s q := rfl

set_option maxRecDepth 100000 in
set_option maxHeartbeats 2000000 in
theorem latestAdds_walk (A : Option Addr) (n cap : Nat) (bs : List BlkM) (a1 : Int) (b1 : (Lit.int .u32 a1).wf = true) (w : World) (hA : ReadsB w A n cap bs) : Calls Try.prog 8 #[.slice A n cap, .int .u32 a1] w fun e w' => e = .returned (.bool true) ∧ Below w.heap.size w w' := by
  have hz := spl_zero
  have hz2 := Theirs.dbk_zero
  have HA := Lib.hid hA
  have hnm : (n : Int) ≤ 9223372036854775807 := by have := hA.le; have := hA.max; unfold maxLen at *; omega
  have AL := Lib.hid (alive7_any w)
  have bb := bounds_u32 b1
  obtain ⟨s, rfl⟩ := U_of bb.1 (by omega)
  have HLN := Lib.hid hA.len
  clear hA b1 bb
  obtain ⟨i0, hin, hz0, hz1, hz2'⟩ := info_parts Theirs.dbk_infoA
  by_cases hn : n ≤ 12
  · have hn' : (n : Int) ≤ 12 := by omega
    obtain ⟨T, hT⟩ : ∃ T : Int, T = U (lTop (cnt bs)) := ⟨_, rfl⟩
    have LT := Lib.hid (fun A c W (h : ReadsB W A n c bs) => ltop_any A n c bs W h (by omega))
    rw [← hT] at LT
    have hT0 : 0 ≤ T := by rw [hT]; exact U_nonneg _
    have HT := Lib.hid hT
    clear hT
    by_cases ht : 2147483648 ≤ T
    · go_enter Try.func8, Try.ntmps8
      go_wp2_with (first
        | (go_at_call 9; (refine AL.out.mono ?_); rintro e w1 ⟨rfl, hb⟩; have HB := Lib.hid hb; have HL := Lib.hid (HA.out.kept hb); clear hb)
        | (go_at_call 10; (refine (Theirs.any _ _ _ _ _ HL.out (by omega)).mono ?_); rintro e w2 ⟨B2, c2, rfl, hr, hb⟩; have HX := Lib.hid hr; have HB := Lib.hid (below_then HB.out hb); clear hr hb)
        | (go_at_call 13; (refine (lof_any _ _ _ _ _ HX.out (by omega)).mono ?_); rintro e w3 ⟨B3, c3, rfl, hr, hb⟩; have HX := Lib.hid (HX.out.kept hb); have HB := Lib.hid (below_then HB.out hb); clear hr hb)
        | (go_at_call 17; (refine (LT.out _ _ _ HX.out).mono ?_); rintro e w4 ⟨rfl, hb⟩; have HB := Lib.hid (below_then HB.out hb); clear hb))
      go_ret
      exact ⟨rfl, HB.out⟩
    · obtain ⟨q, hq⟩ := U_of (a := T + 1) (by omega) (by omega)
      have HQ := Lib.hid hq
      have ht' : T < 2147483648 := by omega
      obtain ⟨L, hL⟩ : ∃ L, L = lOf (cnt bs) := ⟨_, rfl⟩
      obtain ⟨M, hM⟩ : ∃ M, M = lOf (cnt (bs ++ [blk1 s q])) := ⟨_, rfl⟩
      have HF : Hid (lFind M s = some ⟨n, 0, ⟨s, q, false, 0#32, 0#32, 0#32, 0#32⟩⟩) := Lib.hid (by
        rw [hM, of_find, cnt_more, HLN.out]
        exact best_more (x := ⟨n, 0, ⟨s, q, false, 0#32, 0#32, 0#32, 0#32⟩⟩) (by show _ < U q; rw [← hq, ← HT.out]; omega))
      have HO : Hid (∀ j, j < L.length → (plN L j).p.s ≠ s → lFind M (plN L j).p.s = some (plN L j)) := Lib.hid (fun j hj hs => by
        rw [hM, of_find, cnt_more, best_other (by exact hs), ← of_find, ← hL]
        refine lFind_at hj (fun k hk e => ?_) rfl
        have hr := of_rises (cnt bs)
        rw [← hL] at hr
        unfold Rises at hr
        rw [List.pairwise_iff_getElem] at hr
        have h2 := hr k j (by omega) hj hk
        have ek : plN L k = L[k] := by unfold plN; rw [List.getD_eq_getElem?_getD, List.getElem?_eq_getElem (by omega)]; rfl
        have ej : plN L j = L[j] := by unfold plN; rw [List.getD_eq_getElem?_getD, List.getElem?_eq_getElem hj]; rfl
        rw [← ek, ← ej, e] at h2
        omega)
      have HLL : Hid (L.length ≤ 1000) := Lib.hid (by rw [hL]; have := of_len (cnt bs); have := cnt_len bs; have := HLN.out; omega)
      have HML : Hid (M.length ≤ 1000) := Lib.hid (by rw [hM]; have := of_len (cnt (bs ++ [blk1 s q])); have := cnt_len (bs ++ [blk1 s q]); have h := HLN.out; rw [List.length_append, List.length_singleton] at this; omega)
      have LO := Lib.hid (fun A c W (h : ReadsB W A n c bs) => lof_own A n c bs W h (by omega))
      rw [← hL] at LO
      have LM := Lib.hid (fun A m c W (h : ReadsB W A m c (bs ++ [blk1 s q])) (hm : m ≤ 100) => lof_any A m c _ W h hm)
      rw [← hM] at LM
      have Hok : Hid (∀ b ∈ bs ++ [blk1 s q], BlkOk b) := Lib.hid (fun b hb => by
        rcases List.mem_append.1 hb with h | h
        · exact HA.out.ok b h
        · rw [List.mem_singleton.1 h]; exact blk1_ok s q)
      obtain ⟨pr, po, hpl, he, hs⟩ := bk_page blkK_ok 0 (by omega)
      have HPL := Lib.hid hpl
      have HE := Lib.hid he
      have HPS := Lib.hid ((hs ⟨s, q, false, 0#32, 0#32, 0#32, 0#32⟩).symm.trans (congrArg bkC (blkK_pages s q)))
      clear hq hL hM ht hpl he hs
      go_enter Try.func8, Try.ntmps8
      go_wp2_with (first
        | (go_at_call 9; (refine AL.out.mono ?_); rintro e w1 ⟨rfl, hb⟩; have HB := Lib.hid hb; have HS := Lib.hid hb.size; have HL := Lib.hid (HA.out.kept hb); clear hb)
        | (go_at_call 10; (refine (Theirs.any_own _ _ _ _ _ HL.out (by omega)).mono ?_); rintro e w2 ⟨B2, c2, rfl, ho, hb⟩; obtain ⟨_, _, e0, hX⟩ := ReadsB.of_own ho HL.out.ok HL.out.len.symm; rw [HL.out.len] at e0 hX; (injection e0 with e1 _ e3); subst e1 e3; have HX := Lib.hid hX; have HOW := Lib.hid ho; have HSX := Lib.hid hb.size; have HB := Lib.hid (below_then HB.out hb); clear ho hb hX)
        | (go_at_call 13; (refine (LO.out _ _ _ HX.out).mono ?_); rintro e w3 ⟨B3, c3, rfl, hr, hb, hf⟩; have HFR : Hid (∀ g off, B3 = some ⟨g, off, none⟩ → (Value.slice B2 n c2).ownBlock ≠ some g) := Lib.hid (fun g off he hk => absurd (hf g off he) (by have := (HOW.out.lt g hk).2; omega)); have HP := Lib.hid hr; have HX := Lib.hid (HX.out.kept hb); have HSX := Lib.hid (Nat.le_trans HSX.out hb.size); have HOW := Lib.hid (own_below HOW.out hb); have HB := Lib.hid (below_then HB.out hb); clear hr hb hf)
        | (go_at_call 17; (refine (LT.out _ _ _ HX.out).mono ?_); rintro e w4 ⟨rfl, hb⟩; have HP := Lib.hid (HP.out.kept hb); have HS4 := Lib.hid (Nat.le_trans HSX.out hb.size); have HOW := Lib.hid (own_below HOW.out hb); have HB := Lib.hid (below_then HB.out hb); clear hb)
        | (refine wpList_buildH _ rfl rfl rfl ?_)
        | (refine wpList_stm (pre := []) (post := []) (xs := bkC bk0) (ys := bkC blkH) _ _ rfl rfl rfl rfl Theirs.dbk_size (by rfl) (bk_len blkH_ok) (bk_one _) rfl (by simp) (At.news w4 _ (bkC bk0)) ?_; intro V1 A1 T1; rw [List.nil_append, List.append_nil] at A1; have k2 := A1.cell 2; have f2 := A1.frozen 2; rw [show (bkC blkH)[2]? = some (.int .i64 0) from rfl] at k2; have A2 := A1.put 2 (.int .i64 1); rw [show (bkC blkH).set 2 (.int .i64 1) = bkC blkK from bk_setKind blkH_ok 0 (by omega) 1] at A2; have HA2 := Lib.hid A2; clear A2; have HA1 := Lib.hid A1; have HT1 := Lib.hid T1; clear A1 T1)
        | (refine wpList_buildSQ _ _ s q rfl rfl rfl (congrArg (Value.int .u32) HQ.out) ?_)
        | (refine wpList_stm (ty := 40) (ys := pgC ⟨s, q, false, 0#32, 0#32, 0#32, 0#32⟩) _ _ rfl rfl rfl rfl Theirs.dpg_size (pgC_len _) (pgC_len _) (pgC_one _) HPL.out HE.out HA2.out ?_; intro V3 A3 T3; rw [HPS.out] at A3; have HA3 := Lib.hid A3; have HT3 := Lib.hid T3; clear A3 T3 k2 f2)
        | (refine wpList_ldr _ rfl rfl rfl Try.underlying60 rfl Theirs.dbk_size (bk_len (blk1_ok s q)) HA3.out.rng ?_)
        | (refine wpList_build_one _ rfl rfl rfl Try.underlying24 hin hz0 hz1 (cs := (bkC (blk1 s q)).toArray) (by simpa using bk_len (blk1_ok s q)) (by omega) (by omega) ?_)
        | (at_builtin; refine halt_here ?_))
      refine Lib.hid ?_
      have T5 : Turned NoBlock w4 (V3.alloc (.cells (bkC (blk1 s q)).toArray 60)) := (((((Turned.refl NoBlock w4).alloc _).after HT1.out (fun k hk he => by unfold Just at he; omega)).setCell (p := ⟨w4.heap.size, 2, none⟩) (fun h => absurd h (Nat.lt_irrefl _)) (.int .i64 1)).after HT3.out (fun k hk he => by unfold Just at he; omega)).alloc _
      have HB5 := Lib.hid (T5.below (B := w4.heap.size) (fun k hk => hk.elim) (Nat.le_refl _))
      clear T5
      have HOW := Lib.hid (own_below HOW.out HB5.out)
      have hbase : w1.heap.size ≤ V3.heap.size := by have := HB5.out.size; have := HS4.out; have := HT3.out.size; have := HT1.out.size; simp at *; omega
      refine wpList_append_lies _ rfl _ _ _ rfl w1.heap.size 60 i0 _ 66 304 Try.underlying24 hin hz0 hz1 hz2' (by show (bkC bk0).toArray.size = 66; simpa using bk_len bk0_ok) (by omega) _ n _ rfl HOW.out ⟨V3.heap.size, 0, none⟩ 1 1 (bkC (blk1 s q)) rfl (by rw [bk_len (blk1_ok s q)]) (At.news V3 _ _).news_at (bk_one _) (by omega) (by unfold maxLen; omega) (by omega) (by simp; omega) _ rfl ?_
      intro g' cap' w5 h1 h2 h3 h4
      simp only [Act.put, List.setIfInBounds_toArray, List.set_cons_zero, List.set_cons_succ]
      have hn1 : bks (bs ++ [blk1 s q]) = bks bs ++ bkC (blk1 s q) := bks_snoc _ _
      rw [← hn1] at h1
      obtain ⟨_, _, e0, hX⟩ := ReadsB.of_own h1 Hok.out (by rw [List.length_append, List.length_singleton, HLN.out])
      have e1 : (bs ++ [blk1 s q]).length = n + 1 := by rw [List.length_append, List.length_singleton, HLN.out]
      rw [e1] at e0 hX
      injection e0 with e1 _ e3
      subst e1 e3
      have HX5 := Lib.hid hX
      have HP5 := Lib.hid (readsL_turned (HP.out.kept HB5.out) ((Turned.refl (fun k => (Value.slice B2 n c2).ownBlock = some k) _).grown h2 (fun k hk _ => hk)) (fun g off he _ hk => HFR.out g off he hk))
      have HB6 := Lib.hid ((HB.out.trans (HB5.out.mono HB.out.size)).grown h2 (by have := HB.out.size; have := HB5.out.size; omega) (fun k hk => Nat.le_trans HS.out (HOW.out.lt k hk).1))
      clear h1 h2 h3 h4 hn1 hX hbase
      go_wp2_with (first
        | (go_at_call 13; (refine (LM.out _ _ _ _ HX5.out (by omega)).mono ?_); rintro e w6 ⟨B6, c6, rfl, hr, hb⟩; have HM := Lib.hid hr; have HP5 := Lib.hid (HP5.out.kept hb); have HB6 := Lib.hid (below_then HB6.out hb); clear hr hb)
        | (go_at_call 19; (refine (lfind_any _ _ _ M s _ HM.out (by have := HML.out; omega)).mono ?_); rintro e w7 ⟨rfl, hb⟩; rw [HF.out]; dsimp only [Option.getD, Option.isSome]; unfold plV; have HM := Lib.hid (HM.out.kept hb); have HP5 := Lib.hid (HP5.out.kept hb); have HB6 := Lib.hid (below_then HB6.out hb); clear hb)
        | (refine wpList_stm (ty := 42) (pre := []) (post := []) (xs := plC pl0) (ys := plC ⟨n, 0, ⟨s, q, false, 0#32, 0#32, 0#32, 0#32⟩⟩) _ _ rfl rfl rfl rfl spl_size (by rfl) (plC_len _) (plC_one _) rfl (by simp) (At.news w7 _ (plC pl0)) ?_; intro V A8 T8; rw [List.nil_append, List.append_nil] at A8; have hb := ((Below.refl _ w7).alloc (Nat.le_refl _) (.cells (plC pl0).toArray 42)).trans (T8.below (fun k hk => by unfold Just at hk; omega) (by simp)); have y0 := A8.cell 0; have y3 := A8.cell 3; rw [show (plC ⟨(n : Int), 0, ⟨s, q, false, 0#32, 0#32, 0#32, 0#32⟩⟩)[0]? = some (.int .i64 n) from rfl] at y0; rw [show (plC ⟨(n : Int), 0, ⟨s, q, false, 0#32, 0#32, 0#32, 0#32⟩⟩)[3]? = some (.int .u32 (U q)) from rfl, ← HQ.out] at y3; have HM := Lib.hid (HM.out.kept hb); have HP5 := Lib.hid (HP5.out.kept hb); have HB6 := Lib.hid (below_then HB6.out hb); clear A8 T8 hb))
      clear y0 y3 e1
      have HLc : (L.length : Int) ≤ 1000 := by have := HLL.out; omega
      go_loopg [68] L.length (fun g i wr => ∃ j : Nat, j ≤ L.length ∧ g = L.length - j ∧ i = .int .i64 j ∧ Below V.heap.size V wr)
      case atStart => exact ⟨0, by omega, rfl, rfl, Below.refl _ _⟩
      case round =>
        obtain ⟨j, hj, rfl, rfl, hB⟩ := hrel
        have HBV := Lib.hid hB
        have HM := Lib.hid (HM.out.kept hB)
        have HP5 := Lib.hid (HP5.out.kept hB)
        clear hB
        by_cases hlt : j < L.length
        · have j0 : (0 : Int) ≤ (j : Int) := by omega
          have j1 : (j : Int) < (L.length : Int) := by omega
          obtain ⟨g, off, rfl, hg, hr⟩ := HP5.out.at_ hlt
          have HRR := Lib.hid hr
          have HG := Lib.hid hg
          obtain ⟨y, hy⟩ : ∃ y, y = plN L j := ⟨_, rfl⟩
          have HOY := Lib.hid (HO.out j hlt)
          rw [← hy] at HRR HOY
          clear hr hg hy
          have l0 : ∀ W, Below wr.heap.size wr W → (op_ex (ldB 42) (.pointer (some ⟨g, off + j * 9, none⟩)) W).choose = .ok (.value (.agg (plC y).toArray)) W := fun W hW => ldP_at (range_kept HRR.out (hW.block _ HG.out))
          have S0 : Below wr.heap.size wr wr := Below.refl _ _
          by_cases hys : y.p.s = s
          · have ne : (U y.p.s != U s) = false := by rw [hys]; simp
            clear hys HOY
            obtain ⟨z, hz9⟩ : ∃ z, z = (lFind M y.p.s).getD pl0 := ⟨_, rfl⟩
            obtain ⟨f, hf9⟩ : ∃ f, f = (lFind M y.p.s).isSome := ⟨_, rfl⟩
            have LF := fun A c W (h : ReadsL W A M.length c M) => lfind_any A M.length c M y.p.s W h (by have := HML.out; omega)
            rw [← hz9, ← hf9] at LF
            unfold plV at LF
            have HLF := Lib.hid LF
            clear LF hz9 hf9
            go_wp2_with (first
              | (refine wpList_stm (ty := 42) (pre := []) (post := []) (xs := plC pl0) (ys := plC y) _ _ rfl rfl rfl rfl spl_size (by rfl) (plC_len _) (plC_one _) rfl (by simp) (At.news wr _ (plC pl0)) ?_; intro V8 A8 T8; rw [List.nil_append, List.append_nil] at A8; have hb := ((Below.refl _ wr).alloc (Nat.le_refl _) (.cells (plC pl0).toArray 42)).trans (T8.below (fun k hk => by unfold Just at hk; omega) (by simp)); have y2 := A8.cell 2; rw [show (plC y)[2]? = some (.int .u32 (U y.p.s)) from rfl] at y2; have HY8 := Lib.hid A8; have HM8 := Lib.hid (HM.out.kept hb); have HB8 := Lib.hid hb; clear A8 T8 hb)
              | (go_at_call 19; (refine (HLF.out _ _ _ HM8.out).mono ?_); rintro e w9 ⟨rfl, hb⟩; clear y2; have HY9 := Lib.hid (HY8.out.kept (Turned.of_below hb (Nat.le_refl _) NoBlock) (fun h => h)); have HB9 := Lib.hid (below_then HB8.out hb); clear hb)
              | (refine wpList_stm (ty := 42) (pre := []) (post := []) (xs := plC pl0) (ys := plC z) _ _ rfl rfl rfl rfl spl_size (by rfl) (plC_len _) (plC_one _) rfl (by simp) (At.news w9 _ (plC pl0)) ?_; intro V10 A8 T8; rw [List.nil_append, List.append_nil] at A8; have hb := ((Below.refl _ w9).alloc (Nat.le_refl _) (.cells (plC pl0).toArray 42)).trans (T8.below (fun k hk => by unfold Just at hk; omega) (by simp)); have A9 := HY9.out.kept (Turned.of_below hb (Nat.le_refl _) NoBlock) (fun h => h); have y2 := A9.cell 2; rw [show (plC y)[2]? = some (.int .u32 (U y.p.s)) from rfl] at y2; have HY10 := Lib.hid A9; have HZ10 := Lib.hid A8; have l13 : ∀ W, Below V10.heap.size V10 W → (op_ex (ldB 42) (.pointer (some ⟨wr.heap.size, 0, none⟩)) W).choose = .ok (.value (.agg (plC y).toArray)) W := (fun W hW => ldP_at (range_kept HY10.out.rng (hW.block _ HY10.out.lt))); have l14 : ∀ W, Below V10.heap.size V10 W → (op_ex (ldB 42) (.pointer (some ⟨w9.heap.size, 0, none⟩)) W).choose = .ok (.value (.agg (plC z).toArray)) W := (fun W hW => ldP_at (range_kept HZ10.out.rng (hW.block _ HZ10.out.lt))); have S10 : Below V10.heap.size V10 V10 := Below.refl _ _; have HB10 := Lib.hid (below_then HB9.out hb); clear A8 T8 hb A9))
            go_roundg (L.length - (j + 1))
            case measure => go_light; omega
            case rel =>
              go_light
              exact ⟨j + 1, by omega, rfl, by go_num, below_then HBV.out HB10.out⟩
          · have ne : (U y.p.s != U s) = true := by rw [bne_iff_ne]; exact fun e => hys (U_inj e)
            obtain ⟨z, hzy⟩ : ∃ z, z = y := ⟨_, rfl⟩
            have eq : ∀ W : World, (Op.equalIn 10000 42 (.agg (plC z).toArray) (.agg (plC y).toArray)).run Try.prog W = .ok true W := fun W => by rw [hzy, run_eq_spl 9996 y y W, decide_eq_true rfl]
            have LF := fun A c W (h : ReadsL W A M.length c M) => lfind_any A M.length c M y.p.s W h (by have := HML.out; omega)
            rw [HOY.out hys] at LF
            dsimp only [Option.getD, Option.isSome] at LF
            unfold plV at LF
            rw [show (plC y).toArray = (plC z).toArray from by rw [hzy]] at LF
            have HLF := Lib.hid LF
            clear LF hys HOY hzy
            go_wp2_with (first
              | (refine wpList_stm (ty := 42) (pre := []) (post := []) (xs := plC pl0) (ys := plC y) _ _ rfl rfl rfl rfl spl_size (by rfl) (plC_len _) (plC_one _) rfl (by simp) (At.news wr _ (plC pl0)) ?_; intro V8 A8 T8; rw [List.nil_append, List.append_nil] at A8; have hb := ((Below.refl _ wr).alloc (Nat.le_refl _) (.cells (plC pl0).toArray 42)).trans (T8.below (fun k hk => by unfold Just at hk; omega) (by simp)); have y2 := A8.cell 2; rw [show (plC y)[2]? = some (.int .u32 (U y.p.s)) from rfl] at y2; have HY8 := Lib.hid A8; have HM8 := Lib.hid (HM.out.kept hb); have HB8 := Lib.hid hb; clear A8 T8 hb)
              | (go_at_call 19; (refine (HLF.out _ _ _ HM8.out).mono ?_); rintro e w9 ⟨rfl, hb⟩; clear y2; have HY9 := Lib.hid (HY8.out.kept (Turned.of_below hb (Nat.le_refl _) NoBlock) (fun h => h)); have HB9 := Lib.hid (below_then HB8.out hb); clear hb)
              | (refine wpList_stm (ty := 42) (pre := []) (post := []) (xs := plC pl0) (ys := plC z) _ _ rfl rfl rfl rfl spl_size (by rfl) (plC_len _) (plC_one _) rfl (by simp) (At.news w9 _ (plC pl0)) ?_; intro V10 A8 T8; rw [List.nil_append, List.append_nil] at A8; have hb := ((Below.refl _ w9).alloc (Nat.le_refl _) (.cells (plC pl0).toArray 42)).trans (T8.below (fun k hk => by unfold Just at hk; omega) (by simp)); have A9 := HY9.out.kept (Turned.of_below hb (Nat.le_refl _) NoBlock) (fun h => h); have y2 := A9.cell 2; rw [show (plC y)[2]? = some (.int .u32 (U y.p.s)) from rfl] at y2; have HY10 := Lib.hid A9; have HZ10 := Lib.hid A8; have l13 : ∀ W, Below V10.heap.size V10 W → (op_ex (ldB 42) (.pointer (some ⟨wr.heap.size, 0, none⟩)) W).choose = .ok (.value (.agg (plC y).toArray)) W := (fun W hW => ldP_at (range_kept HY10.out.rng (hW.block _ HY10.out.lt))); have l14 : ∀ W, Below V10.heap.size V10 W → (op_ex (ldB 42) (.pointer (some ⟨w9.heap.size, 0, none⟩)) W).choose = .ok (.value (.agg (plC z).toArray)) W := (fun W hW => ldP_at (range_kept HZ10.out.rng (hW.block _ HZ10.out.lt))); have S10 : Below V10.heap.size V10 V10 := Below.refl _ _; have HB10 := Lib.hid (below_then HB9.out hb); clear A8 T8 hb A9))
            go_roundg (L.length - (j + 1))
            case measure => go_light; omega
            case rel =>
              go_light
              exact ⟨j + 1, by omega, rfl, by go_num, below_then HBV.out HB10.out⟩
        · obtain rfl : j = L.length := by omega
          go_wp2
          go_ret
          exact ⟨rfl, below_then HB6.out HBV.out⟩
  · have hn' : ¬ (n : Int) ≤ 12 := by omega
    go_enter Try.func8, Try.ntmps8
    go_wp2_with (go_at_call 9; (refine AL.out.mono ?_); rintro e w1 ⟨rfl, hb⟩; have HB1 := Lib.hid hb; clear hb)
    go_ret
    exact ⟨rfl, HB1.out⟩
end Go.Proofs.Ytfpfcmgcfbkolaa
