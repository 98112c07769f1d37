/- The walk of LatestLost. -/
import Derived.Test.YtfpfcmgcfbkolaaLatMap
import Derived.Carry
namespace Go.Proofs.Ytfpfcmgcfbkolaa
open Go.RowKit Bm

attribute [local go_sem ↓] Go.wp_at_zero Go.wp_at_succ

theorem reads_all {w : World} {g off : Nat} {bs : List BlkM} (hok : ∀ b ∈ bs, BlkOk b) (h : ∀ j b, bs[j]? = some b → w.rangeAt g (off + j * 66) (bkC b)) : ∀ j u, (bks bs)[j]? = some u → w.cell? ((⟨g, off, none⟩ : Addr).add j) = some u := by
  intro j u hu
  have hj := (List.getElem?_eq_some_iff.1 hu).1
  rw [bks_len hok] at hj
  have hq : j / 66 < bs.length := by omega
  have hb := bkN_get hq
  have hbo := hok _ (List.mem_of_getElem? hb)
  have hr : j % 66 < (bkC (bkN bs (j / 66))).length := by rw [bk_len hbo]; omega
  have h1 := bks_get hok hb (j % 66) _ (List.getElem?_eq_getElem hr)
  rw [show j / 66 * 66 + j % 66 = j by omega, hu] at h1
  have h2 := h _ _ hb (j % 66) _ (List.getElem?_eq_getElem hr)
  rw [Nat.add_assoc, show j / 66 * 66 + j % 66 = j by omega, ← h1] at h2
  have e : (⟨g, off, none⟩ : Addr).add j = ⟨g, off + j, none⟩ := by unfold Addr.add; split <;> simp_all
  rw [e, h2]
theorem bks_split {cs : List BlkM} (hok : ∀ b ∈ cs, BlkOk b) {j : Nat} (hj : j < cs.length) : (bks (cs.take j)).length = j * 66 ∧ bks cs = bks (cs.take j) ++ (bkC (bkN cs j) ++ bks (cs.drop (j + 1))) ∧ ∀ c, bks (cs.set j c) = bks (cs.take j) ++ (bkC c ++ bks (cs.drop (j + 1))) := by
  have e : cs = cs.take j ++ (bkN cs j :: cs.drop (j + 1)) := by
    have h1 : bkN cs j :: cs.drop (j + 1) = cs.drop j := by
      rw [List.drop_eq_getElem_cons hj]
      unfold bkN
      rw [List.getD_eq_getElem?_getD, List.getElem?_eq_getElem hj]
      rfl
    rw [h1, List.take_append_drop]
  have f : ∀ x, bks (cs.take j ++ (x :: cs.drop (j + 1))) = bks (cs.take j) ++ (bkC x ++ bks (cs.drop (j + 1))) := fun x => by
    unfold bks
    rw [List.flatMap_append, List.flatMap_cons]
  refine ⟨?_, ?_, fun c => ?_⟩
  · rw [bks_len (fun b hb => hok b (List.mem_of_mem_take hb)), List.length_take]
    omega
  · conv => lhs; rw [e]
    rw [f]
  · rw [List.set_eq_take_append_cons_drop, if_pos hj, f c]
set_option maxRecDepth 100000 in
theorem run_buildZ (w : World) : (Instr.build 60 #[]).run Try.prog w = .ok (.agg (bkC bk0).toArray) w := by kernel_rfl
theorem wpList_buildZ {ops : Array Oper} {rest : List Oper} {o : Oper} {a : Go.Act} {w : World} {Q : Exit → Go.Act → World → Prop} (hgd : o.guard = none) (ho : o.op = .build 60 #[])
    (hK : wpList Try.prog ops Q rest (a.put o.dst (.agg (bkC bk0).toArray)) w) : wpList Try.prog ops Q (o :: rest) a w :=
  wpList_plain hgd fun K hK' => by
    unfold Oper.wp execOp
    simp only [ho, List.map_toArray, List.map_nil, Sem.run_bind, run_buildZ, Result.andThen_ok]
    exact hK' _ _ hK

set_option maxRecDepth 100000 in
set_option maxHeartbeats 2000000 in
theorem latestLost_walk (A : Option Addr) (n cap : Nat) (bs : List BlkM) (a1 : Int) (b1 : (Lit.int .u8 a1).wf = true) (w : World) (hA : ReadsB w A n cap bs) : Calls Try.prog 6 #[.slice A n cap, .int .u8 a1] w fun e w' => e = .returned (.bool true) ∧ Below w.heap.size w w' := by
  have hz := spl_zero
  have hz2 := Theirs.dbk_zero
  have hmm := @run_makeMap Try.prog
  have HA := Lib.hid hA
  have hnm : (n : Int) ≤ 9223372036854775807 := by have := hA.le; have := hA.max; unfold maxLen at *; omega
  have AL := Lib.hid (alive7_any w)
  have hb8 : 0 ≤ a1 ∧ a1 ≤ 255 := by
    simp [Lit.wf, IntKind.signed, IntKind.bits, IntKind.min, IntKind.max] at b1
    omega
  obtain ⟨hb0, hb1⟩ := hb8
  have HLN := Lib.hid hA.len
  clear hA b1
  obtain ⟨i0, hin, hz0, hz1, hz2'⟩ := info_parts Theirs.dbk_infoA
  by_cases hn : n ≤ 12
  · have hn' : (n : Int) ≤ 12 := by omega
    have hd : decide (12 < (n : Int)) = false := by rw [decide_eq_false_iff_not]; omega
    have hd' : decide (12 < n) = false := by rw [decide_eq_false_iff_not]; omega
    by_cases h0 : n = 0
    · have he : ((n : Int) == 0) = true := by rw [beq_iff_eq]; omega
      clear h0
      go_enter Try.func6, Try.ntmps6
      go_wp2_with (go_at_call 9; (refine AL.out.mono ?_); rintro e w1 ⟨rfl, hb⟩; have HB1 := Lib.hid hb; clear hb)
      go_ret
      exact ⟨rfl, HB1.out⟩
    · have he : ((n : Int) == 0) = false := by rw [beq_eq_false_iff_ne]; omega
      have hpos : 0 < n := by omega
      have hpos' : (0 : Int) < (n : Int) := by omega
      obtain ⟨k, hk⟩ : ∃ k : Nat, a1 % (n : Int) = (k : Int) := ⟨(a1 % (n : Int)).toNat, by have := Int.emod_nonneg a1 (b := (n : Int)) (by omega); omega⟩
      have hkn : k < n := by have := Int.emod_lt_of_pos a1 hpos'; omega
      have hkn' : (k : Int) < (n : Int) := by omega
      have hk0 : (0 : Int) ≤ (k : Int) := by omega
      have ht : a1.tmod (n : Int) = (k : Int) := by rw [Int.tmod_eq_emod_of_nonneg hb0, hk]
      obtain ⟨xs, hxs⟩ : ∃ xs, xs = lNeeded (cnt bs) k := ⟨_, rfl⟩
      obtain ⟨L, hL⟩ : ∃ L, L = lOf (cnt bs) := ⟨_, rfl⟩
      obtain ⟨M, hM⟩ : ∃ M, M = lOf (cnt (bs.set k bk0)) := ⟨_, rfl⟩
      have HXL : Hid (xs.length ≤ 500) := Lib.hid (by rw [hxs]; have := needed_len (cnt bs) k; have := cnt_len bs; have := HLN.out; omega)
      have HLL : Hid (L.length ≤ 1000) := Lib.hid (by rw [hL]; have := of_len (cnt bs); have := cnt_len bs; have := HLN.out; omega)
      have HML : Hid (M.length ≤ 1000) := Lib.hid (by rw [hM]; have := of_len (cnt (bs.set k bk0)); have := cnt_len (bs.set k bk0); have h := HLN.out; rw [List.length_set] at this; omega)
      have HXO : Hid (xs.Pairwise fun a b => a.p.s ≠ b.p.s) := Lib.hid (by rw [hxs]; exact needed_one (cnt_ahead bs) k)
      have HXB : Hid (∀ j, j < xs.length → (plN xs j).b = (k : Int)) := Lib.hid (fun j hj => by
        have := List.mem_of_getElem? (plN_get hj)
        rw [hxs] at this
        rw [hxs]
        exact (mem_needed.1 this).2.1)
      have HLS : Hid (∀ j, j < L.length → ((∀ z ∈ xs, z.p.s ≠ (plN L j).p.s) ↔ ∃ y, lFind M (plN L j).p.s = some y ∧ y.p.q = (plN L j).p.q)) := Lib.hid (fun j hj => by
        have h1 := (of_atB (all := cnt bs) (j := j) (by rw [← hL]; exact hj)).1
        rw [← hL] at h1
        rw [hxs, hM, of_find, cnt_set (by rw [HLN.out]; exact hkn)]
        exact lost_same (cnt_ahead bs) h1)
      have LN := Lib.hid (fun A c W (h : ReadsB W A n c bs) => lneeded_any A n c bs k W h (by omega))
      rw [← hxs] at LN
      have LO := Lib.hid (fun A c W (h : ReadsB W A n c bs) => lof_any A n c bs W h (by omega))
      rw [← hL] at LO
      have LM := Lib.hid (fun A m c W (h : ReadsB W A m c (bs.set k bk0)) (hm : m ≤ 100) => lof_any A m c _ W h hm)
      rw [← hM] at LM
      clear hxs hL hM h0
      go_enter Try.func6, Try.ntmps6
      go_wp2_with (first
        | (go_at_call 9; (refine AL.out.mono ?_); rintro e w1 ⟨rfl, hb⟩; have HB := Lib.hid hb; have HS := Lib.hid hb.size; have HL := Lib.hid (HA.out.kept hb); clear hb)
        | (go_at_call 10; (refine (Theirs.any _ _ _ _ _ HL.out (by omega)).mono ?_); rintro e w2 ⟨B2, c2, rfl, hr, hb⟩; have HX := Lib.hid hr; have HB := Lib.hid (below_then HB.out hb); clear hr hb)
        | (go_at_call 15; (refine (LN.out _ _ _ (HX.out.kept ((Below.refl _ w2).alloc (Nat.le_refl _) _))).mono ?_); rintro e w8 ⟨B8, c8, rfl, hr, hb⟩; have HN := Lib.hid hr; have HM8 := Lib.hid ((MapUI.news w2).below hb); have HB8 := Lib.hid (((Below.refl _ w2).alloc (Nat.le_refl _) (.map #[] 0)).trans (hb.mono (by simp))); clear hr hb))
      have HNE : Hid (∀ g off, B8 = some ⟨g, off, none⟩ → 0 < xs.length → g ≠ w2.heap.size) := Lib.hid (by
        rintro g off rfl hp rfl
        obtain ⟨g', off', e, _, hr⟩ := HN.out.at_ hp
        cases e
        have := hr 0 _ rfl
        rw [HM8.out.map.2] at this
        cases this)
      have HXc : (xs.length : Int) ≤ 500 := by have := HXL.out; omega
      go_loopg [40] xs.length (fun g i wr => ∃ j : Nat, j ≤ xs.length ∧ g = xs.length - j ∧ i = .int .i64 j ∧ MapUI wr w2.heap.size j (hadG xs j) ∧ Turned (Just w2.heap.size) w8 wr)
      case atStart => exact ⟨0, by omega, rfl, rfl, by rw [hadG_zero]; exact HM8.out, Turned.refl _ _⟩
      case round =>
        obtain ⟨j, hj, rfl, rfl, hM, hT⟩ := hrel
        have HMJ := Lib.hid hM
        have HTJ := Lib.hid hT
        clear hM hT
        by_cases hlt : j < xs.length
        · have j0 : (0 : Int) ≤ (j : Int) := by omega
          have j1 : (j : Int) < (xs.length : Int) := by omega
          obtain ⟨g, off, rfl, hg, hr⟩ := (readsL_turned HN.out HTJ.out (fun g off e hp h => HNE.out g off e hp h)).at_ hlt
          obtain ⟨y, hy⟩ : ∃ y, y = plN xs j := ⟨_, rfl⟩
          have HRR := Lib.hid hr
          have hb := HXB.out j hlt
          have g0 := hadG_new hlt HXO.out
          have g1 := hadG_self hlt
          have gs := hadG_succ hlt
          rw [← hy] at HRR hb g0 g1 gs
          have HYB := Lib.hid hb
          have G0 := Lib.hid g0
          have G1 := Lib.hid g1
          have GS := Lib.hid gs
          clear hr hg hy hb g0 g1 gs
          go_wp2_with (first
            | (refine wpList_ldr _ rfl rfl rfl Try.underlying42 rfl spl_size (plC_len _) HRR.out ?_)
            | (refine wpList_stm (ty := 42) (pre := []) (post := []) (xs := plC pl0) (ys := plC y) _ _ rfl rfl rfl rfl spl_size (by rfl) (plC_len _) (plC_one _) rfl (by simp) (At.news wr _ (plC pl0)) ?_; intro V9 A9 T9; rw [List.nil_append, List.append_nil] at A9; have hb := ((Below.refl _ wr).alloc (Nat.le_refl _) (.cells (plC pl0).toArray 42)).trans (T9.below (fun k hk => by unfold Just at hk; omega) (by simp)); have y2 := A9.cell 2; rw [show (plC y)[2]? = some (.int .u32 (U y.p.s)) from rfl] at y2; have HA9 := Lib.hid A9; have HMK := Lib.hid (HMJ.out.below hb); have HTK := Lib.hid (HTJ.out.after (Turned.of_below hb (Nat.le_refl _) (Just w2.heap.size)) (fun k _ h => h)); clear A9 T9 hb)
            | (refine wpList_lookUI _ _ y.p.s 0 rfl rfl rfl rfl HMK.out G0.out ?_)
            | (refine wpList_setUI _ _ _ y.p.s 1 rfl rfl rfl rfl rfl HMK.out (by have := HXL.out; omega) ⟨by omega, by omega⟩ ?_; intro V11 M11 T11; rw [GS.out] at M11; clear y2; have hlt9 := HMK.out.map.1; have A11 := HA9.out.kept T11 (by unfold Just; have := HMJ.out.map.1; omega); have y2 := A11.cell 2; have y0 := A11.cell 0; rw [show (plC y)[2]? = some (.int .u32 (U y.p.s)) from rfl] at y2; rw [show (plC y)[0]? = some (.int .i64 y.b) from rfl, HYB.out] at y0; have HM11 := Lib.hid M11; have HTL := Lib.hid (HTK.out.after T11 (fun k _ h => h)); clear M11 T11 A11 hlt9)
            | (refine wpList_lookUI _ _ y.p.s 1 rfl rfl rfl rfl HM11.out G1.out ?_))
          go_roundg (xs.length - (j + 1))
          case measure => go_light; omega
          case rel =>
            go_light
            exact ⟨j + 1, by omega, rfl, by go_num, HM11.out, HTL.out⟩
        · obtain rfl : j = xs.length := by omega
          rename World => wL
          have hwb : Below w2.heap.size w2 wL := HB8.out.trans (HTJ.out.below (fun k hk => by unfold Just at hk; omega) HB8.out.size)
          obtain ⟨g2, off2, rfl, hg2, hr2⟩ := (HX.out.kept hwb).cell hpos
          have HWB := Lib.hid hwb
          have HR2 := Lib.hid hr2
          clear hwb hg2 hr2
          go_wp2_with (at_builtin; refine halt_here ?_)
          refine Lib.hid ?_
          refine wpList_append_lies _ rfl _ _ _ rfl wL.heap.size 60 i0 _ 66 304 Try.underlying24 hin hz0 hz1 hz2' (by show (bkC bk0).toArray.size = 66; simpa using bk_len bk0_ok) (by omega) (.slice none 0 0) 0 [] rfl (World.ownsRow_nil _ _ _ _) ⟨g2, off2, none⟩ n _ (bks bs) rfl (by rw [bks_len HX.out.ok, HLN.out, Nat.mul_comm]) (reads_all HX.out.ok HR2.out) (fun u hu => by obtain ⟨b, _, h⟩ := List.mem_flatMap.1 hu; exact bk_one b u h) hpos (by unfold maxLen; omega) (by omega) (Nat.le_refl _) _ rfl ?_
          intro g' cap' w15 h1 h2 h3 h4
          rw [Nat.zero_add] at h1
          rw [List.nil_append] at h1
          simp only [Nat.zero_add, Act.put, List.setIfInBounds_toArray, List.set_cons_zero, List.set_cons_succ]
          have hb15 : Below wL.heap.size wL w15 := (Below.refl _ wL).grown h2 (Nat.le_refl _) (fun k hk => by cases hk)
          obtain ⟨rest, hA3, hl3, hc1, hc2, hg3⟩ := at_of_own h1
          obtain ⟨hp1, hp2, hp3⟩ := bks_split HX.out.ok (j := k) (by rw [HLN.out]; exact hkn)
          have HB15 := Lib.hid hb15
          have HA3 := Lib.hid hA3
          have HC1 := Lib.hid hc1
          have HC2 := Lib.hid hc2
          have HG3 := Lib.hid hg3
          have HP1 := Lib.hid hp1
          have HP2 := Lib.hid (show bks bs ++ rest = bks (bs.take k) ++ (bkC (bkN bs k) ++ (bks (bs.drop (k + 1)) ++ rest)) by rw [← List.append_assoc (bkC _), ← List.append_assoc, ← hp2])
          have HP3 := Lib.hid (show bks (bs.take k) ++ (bkC bk0 ++ (bks (bs.drop (k + 1)) ++ rest)) = bks (bs.set k bk0) ++ rest by rw [← List.append_assoc (bkC _), ← List.append_assoc, ← hp3])
          clear h1 h2 h3 h4 hb15 hA3 hl3 hc1 hc2 hg3 hp1 hp2 hp3
          have HKO := Lib.hid (HX.out.ok _ (List.mem_of_getElem? (bkN_get (i := k) (by rw [HLN.out]; exact hkn))))
          have HSO : Hid (∀ b ∈ bs.set k bk0, BlkOk b) := Lib.hid (fun b hb => by
            rcases List.mem_or_eq_of_mem_set hb with h | h
            · exact HX.out.ok b h
            · rw [h]; exact bk0_ok)
          have HLX : Hid ((bs.set k bk0).length = n) := Lib.hid (by rw [List.length_set, HLN.out])
          go_wp2_with (first
            | (refine wpList_buildZ rfl rfl ?_)
            | (refine wpList_stm (ty := 60) (ys := bkC bk0) _ _ rfl rfl rfl rfl Theirs.dbk_size (bk_len HKO.out) (bk_len bk0_ok) (bk_one _) HP1.out HP2.out HA3.out ?_; intro V16 A16 T16; rw [HP3.out] at A16; have hb16 := HB15.out.trans (T16.below (fun k hk => by unfold Just at hk; have := HG3.out; omega) HB15.out.size); have HX16 := Lib.hid (HX.out.kept (HWB.out.trans (hb16.mono HWB.out.size))); have HM16 := Lib.hid (HMJ.out.below hb16); have HB16 := Lib.hid (HWB.out.trans (hb16.mono HWB.out.size)); have hrd := ReadsB.of_at A16 HSO.out (by rw [HLX.out]; exact HC1.out) HC2.out; rw [HLX.out] at hrd; have HR16 := Lib.hid hrd; clear A16 T16 hb16 hrd)
            | (go_at_call 13; (refine (LO.out _ _ _ HX16.out).mono ?_); rintro e w17 ⟨B17, c17, rfl, hr, hb⟩; clear HX16; have HP := Lib.hid hr; have HR16 := Lib.hid (HR16.out.kept hb); have HM17 := Lib.hid (HM16.out.below hb); have HB17 := Lib.hid (below_then HB16.out hb); clear hr hb)
            | (go_at_call 13; (refine (LM.out _ _ _ _ HR16.out (by omega)).mono ?_); rintro e V ⟨B18, c18, rfl, hr, hb⟩; have HQ := Lib.hid hr; have HP := Lib.hid (HP.out.kept hb); have HMV := Lib.hid (HM17.out.below hb); have HBV := Lib.hid (below_then HB.out (below_then HB17.out hb)); clear hr hb))
          have HLc : (L.length : Int) ≤ 1000 := by have := HLL.out; omega
          go_loopg [75] L.length (fun g i wr => ∃ j : Nat, j ≤ L.length ∧ g = L.length - j ∧ i = .int .i64 j ∧ Below V.heap.size V wr)
          case atStart => exact ⟨0, by omega, rfl, rfl, Below.refl _ _⟩
          case round =>
            rename World => wr
            obtain ⟨j, hj, rfl, rfl, hB⟩ := hrel
            have HBW := Lib.hid hB
            have HPW := Lib.hid (HP.out.kept hB)
            have HQW := Lib.hid (HQ.out.kept hB)
            have HMW := Lib.hid (HMV.out.below hB)
            clear hB
            by_cases hlt : j < L.length
            · have j0 : (0 : Int) ≤ (j : Int) := by omega
              have j1 : (j : Int) < (L.length : Int) := by omega
              obtain ⟨g, off, rfl, hg, hr⟩ := HPW.out.at_ hlt
              have hls := HLS.out j hlt
              obtain ⟨y, hy⟩ : ∃ y, y = plN L j := ⟨_, rfl⟩
              rw [← hy] at hr hls
              have HRR := Lib.hid hr
              obtain ⟨z, hz9⟩ : ∃ z, z = (lFind M y.p.s).getD pl0 := ⟨_, rfl⟩
              obtain ⟨f, hf9⟩ : ∃ f, f = (lFind M y.p.s).isSome := ⟨_, rfl⟩
              have LF := fun A c W (h : ReadsL W A M.length c M) => lfind_any A M.length c M y.p.s W h (by have := HML.out; omega)
              rw [← hz9, ← hf9] at LF
              unfold plV at LF
              have HLF := Lib.hid LF
              obtain ⟨hv, hhv⟩ : ∃ hv, hadG xs xs.length y.p.s = hv := ⟨_, rfl⟩
              have hcase : (hv = 0 ∧ f = true ∧ U z.p.q = U y.p.q) ∨ (hv = 1 ∧ f = false) ∨ (hv = 1 ∧ f = true ∧ U z.p.q ≠ U y.p.q) := by
                rcases hadG_all xs y.p.s with ⟨h1, h2⟩ | ⟨h1, h2⟩
                · obtain ⟨z', h3, h4⟩ := hls.1 h2
                  rw [h3] at hz9 hf9
                  simp only [Option.getD, Option.isSome] at hz9 hf9
                  exact .inl ⟨hhv.symm.trans h1, hf9, by rw [hz9, h4]⟩
                · cases hfm : lFind M y.p.s with
                  | none =>
                    rw [hfm] at hf9
                    exact .inr (.inl ⟨hhv.symm.trans h1, hf9⟩)
                  | some z' =>
                    have h3 : z'.p.q ≠ y.p.q := fun e => h2 (hls.2 ⟨z', hfm, e⟩)
                    rw [hfm] at hz9 hf9
                    simp only [Option.getD, Option.isSome] at hz9 hf9
                    exact .inr (.inr ⟨hhv.symm.trans h1, hf9, fun e => h3 (U_inj (by rw [← hz9]; exact e))⟩)
              have HHV := Lib.hid hhv
              clear hg hr hls hy LF hz9 hf9 hhv
              rcases hcase with ⟨rfl, rfl, hq⟩ | ⟨rfl, hff⟩ | ⟨rfl, rfl, hq⟩
              · have qe : (U z.p.q == U y.p.q) = true := by rw [beq_iff_eq]; exact hq
                clear hq
                go_upto_region 22 with (first
                  | ((with_reducible show wpList _ _ _ _ _ _); refine wpList_ldr _ rfl rfl rfl Try.underlying42 rfl spl_size (plC_len _) HRR.out ?_)
                  | ((with_reducible show wpList _ _ _ _ _ _); refine wpList_stm (ty := 42) (pre := []) (post := []) (xs := plC pl0) (ys := plC y) _ _ rfl rfl rfl rfl spl_size (by rfl) (plC_len _) (plC_one _) rfl (by simp) (At.news wr _ (plC pl0)) ?_; intro V8 A8 T8; rw [List.nil_append, List.append_nil] at A8; have hb := ((Below.refl _ wr).alloc (Nat.le_refl _) (.cells (plC pl0).toArray 42)).trans (T8.below (fun k hk => by unfold Just at hk; omega) (by simp)); have y2 := A8.cell 2; rw [show (plC y)[2]? = some (.int .u32 (U y.p.s)) from rfl] at y2; have HY8 := Lib.hid A8; have HM8 := Lib.hid (HQW.out.kept hb); have HB8 := Lib.hid hb; clear A8 T8 hb)
                  | (go_at_call 19; (refine (HLF.out _ _ _ HM8.out).mono ?_); rintro e w9 ⟨rfl, hb⟩; clear y2; have HY9 := Lib.hid (HY8.out.kept (Turned.of_below hb (Nat.le_refl _) NoBlock) (fun h => h)); have HB9 := Lib.hid (below_then HB8.out hb); clear hb)
                  | ((with_reducible show wpList _ _ _ _ _ _); refine wpList_stm (ty := 42) (pre := []) (post := []) (xs := plC pl0) (ys := plC z) _ _ rfl rfl rfl rfl spl_size (by rfl) (plC_len _) (plC_one _) rfl (by simp) (At.news w9 _ (plC pl0)) ?_; intro V10 A8 T8; rw [List.nil_append, List.append_nil] at A8; have hb := ((Below.refl _ w9).alloc (Nat.le_refl _) (.cells (plC pl0).toArray 42)).trans (T8.below (fun k hk => by unfold Just at hk; omega) (by simp)); have A9 := HY9.out.kept (Turned.of_below hb (Nat.le_refl _) NoBlock) (fun h => h); have y2 := A9.cell 2; have y3 := A9.cell 3; have z3 := A8.cell 3; rw [show (plC y)[2]? = some (.int .u32 (U y.p.s)) from rfl] at y2; rw [show (plC y)[3]? = some (.int .u32 (U y.p.q)) from rfl] at y3; rw [show (plC z)[3]? = some (.int .u32 (U z.p.q)) from rfl] at z3; have HB10 := Lib.hid (below_then HB9.out hb); have HM10 := Lib.hid (HMW.out.below HB10.out); clear A8 T8 hb A9))
                go_upto_region 23 with fail
                go_wp2_with ((with_reducible show wpList _ _ _ _ _ _); refine wpList_lookUI _ _ y.p.s 0 rfl rfl rfl rfl HM10.out HHV.out ?_)
                go_roundg (L.length - (j + 1))
                case measure => go_light; omega
                case rel =>
                  go_light
                  exact ⟨j + 1, by omega, rfl, by go_num, below_then HBW.out HB10.out⟩
              · have HFF := Lib.hid hff
                clear hff
                go_upto_region 22 with (first
                  | ((with_reducible show wpList _ _ _ _ _ _); refine wpList_ldr _ rfl rfl rfl Try.underlying42 rfl spl_size (plC_len _) HRR.out ?_)
                  | ((with_reducible show wpList _ _ _ _ _ _); refine wpList_stm (ty := 42) (pre := []) (post := []) (xs := plC pl0) (ys := plC y) _ _ rfl rfl rfl rfl spl_size (by rfl) (plC_len _) (plC_one _) rfl (by simp) (At.news wr _ (plC pl0)) ?_; intro V8 A8 T8; rw [List.nil_append, List.append_nil] at A8; have hb := ((Below.refl _ wr).alloc (Nat.le_refl _) (.cells (plC pl0).toArray 42)).trans (T8.below (fun k hk => by unfold Just at hk; omega) (by simp)); have y2 := A8.cell 2; rw [show (plC y)[2]? = some (.int .u32 (U y.p.s)) from rfl] at y2; have HY8 := Lib.hid A8; have HM8 := Lib.hid (HQW.out.kept hb); have HB8 := Lib.hid hb; clear A8 T8 hb)
                  | (go_at_call 19; (refine (HLF.out _ _ _ HM8.out).mono ?_); rintro e w9 ⟨rfl, hb⟩; rw [HFF.out]; clear y2; have HY9 := Lib.hid (HY8.out.kept (Turned.of_below hb (Nat.le_refl _) NoBlock) (fun h => h)); have HB9 := Lib.hid (below_then HB8.out hb); clear hb)
                  | ((with_reducible show wpList _ _ _ _ _ _); refine wpList_stm (ty := 42) (pre := []) (post := []) (xs := plC pl0) (ys := plC z) _ _ rfl rfl rfl rfl spl_size (by rfl) (plC_len _) (plC_one _) rfl (by simp) (At.news w9 _ (plC pl0)) ?_; intro V10 A8 T8; rw [List.nil_append, List.append_nil] at A8; have hb := ((Below.refl _ w9).alloc (Nat.le_refl _) (.cells (plC pl0).toArray 42)).trans (T8.below (fun k hk => by unfold Just at hk; omega) (by simp)); have A9 := HY9.out.kept (Turned.of_below hb (Nat.le_refl _) NoBlock) (fun h => h); have y2 := A9.cell 2; have y3 := A9.cell 3; have z3 := A8.cell 3; rw [show (plC y)[2]? = some (.int .u32 (U y.p.s)) from rfl] at y2; rw [show (plC y)[3]? = some (.int .u32 (U y.p.q)) from rfl] at y3; rw [show (plC z)[3]? = some (.int .u32 (U z.p.q)) from rfl] at z3; have HB10 := Lib.hid (below_then HB9.out hb); have HM10 := Lib.hid (HMW.out.below HB10.out); clear A8 T8 hb A9))
                go_upto_region 23 with fail
                go_wp2_with ((with_reducible show wpList _ _ _ _ _ _); refine wpList_lookUI _ _ y.p.s 1 rfl rfl rfl rfl HM10.out HHV.out ?_)
                go_roundg (L.length - (j + 1))
                case measure => go_light; omega
                case rel =>
                  go_light
                  exact ⟨j + 1, by omega, rfl, by go_num, below_then HBW.out HB10.out⟩
              · have qe : (U z.p.q == U y.p.q) = false := by rw [beq_eq_false_iff_ne]; exact hq
                clear hq
                go_upto_region 22 with (first
                  | ((with_reducible show wpList _ _ _ _ _ _); refine wpList_ldr _ rfl rfl rfl Try.underlying42 rfl spl_size (plC_len _) HRR.out ?_)
                  | ((with_reducible show wpList _ _ _ _ _ _); refine wpList_stm (ty := 42) (pre := []) (post := []) (xs := plC pl0) (ys := plC y) _ _ rfl rfl rfl rfl spl_size (by rfl) (plC_len _) (plC_one _) rfl (by simp) (At.news wr _ (plC pl0)) ?_; intro V8 A8 T8; rw [List.nil_append, List.append_nil] at A8; have hb := ((Below.refl _ wr).alloc (Nat.le_refl _) (.cells (plC pl0).toArray 42)).trans (T8.below (fun k hk => by unfold Just at hk; omega) (by simp)); have y2 := A8.cell 2; rw [show (plC y)[2]? = some (.int .u32 (U y.p.s)) from rfl] at y2; have HY8 := Lib.hid A8; have HM8 := Lib.hid (HQW.out.kept hb); have HB8 := Lib.hid hb; clear A8 T8 hb)
                  | (go_at_call 19; (refine (HLF.out _ _ _ HM8.out).mono ?_); rintro e w9 ⟨rfl, hb⟩; clear y2; have HY9 := Lib.hid (HY8.out.kept (Turned.of_below hb (Nat.le_refl _) NoBlock) (fun h => h)); have HB9 := Lib.hid (below_then HB8.out hb); clear hb)
                  | ((with_reducible show wpList _ _ _ _ _ _); refine wpList_stm (ty := 42) (pre := []) (post := []) (xs := plC pl0) (ys := plC z) _ _ rfl rfl rfl rfl spl_size (by rfl) (plC_len _) (plC_one _) rfl (by simp) (At.news w9 _ (plC pl0)) ?_; intro V10 A8 T8; rw [List.nil_append, List.append_nil] at A8; have hb := ((Below.refl _ w9).alloc (Nat.le_refl _) (.cells (plC pl0).toArray 42)).trans (T8.below (fun k hk => by unfold Just at hk; omega) (by simp)); have A9 := HY9.out.kept (Turned.of_below hb (Nat.le_refl _) NoBlock) (fun h => h); have y2 := A9.cell 2; have y3 := A9.cell 3; have z3 := A8.cell 3; rw [show (plC y)[2]? = some (.int .u32 (U y.p.s)) from rfl] at y2; rw [show (plC y)[3]? = some (.int .u32 (U y.p.q)) from rfl] at y3; rw [show (plC z)[3]? = some (.int .u32 (U z.p.q)) from rfl] at z3; have HB10 := Lib.hid (below_then HB9.out hb); have HM10 := Lib.hid (HMW.out.below HB10.out); clear A8 T8 hb A9))
                go_upto_region 23 with fail
                go_wp2_with ((with_reducible show wpList _ _ _ _ _ _); refine wpList_lookUI _ _ y.p.s 1 rfl rfl rfl rfl HM10.out HHV.out ?_)
                go_roundg (L.length - (j + 1))
                case measure => go_light; omega
                case rel =>
                  go_light
                  exact ⟨j + 1, by omega, rfl, by go_num, below_then HBW.out HB10.out⟩
            · obtain rfl : j = L.length := by omega
              go_wp2
              go_ret
              exact ⟨rfl, below_then HBV.out HBW.out⟩
  · have hn' : ¬ (n : Int) ≤ 12 := by omega
    have hd : decide (12 < (n : Int)) = true := by rw [decide_eq_true_iff]; omega
    have hd' : decide (12 < n) = true := by rw [decide_eq_true_iff]; omega
    go_enter Try.func6, Try.ntmps6
    go_wp2_with (go_at_call 9; (refine AL.out.mono ?_); rintro e w1 ⟨rfl, hb⟩; have HB1 := Lib.hid hb; clear hb)
    go_ret
    exact ⟨rfl, HB1.out⟩
end Go.Proofs.Ytfpfcmgcfbkolaa
