/- A block is reclaimed: its moves, then it is renewed. | All blocks are renewed. | What a store tells of its blocks' counts. -/
import Derived.Test.YtpkkejdjhnmjiaaGreatFtl5
namespace Go.Proofs.YtpkkejdjhnmjiaaGreat
open Go.RowKit Bm Go.Shelf
def mPuts (d : DrvM) (x : StoM) : List ((Nat × Nat) × PageM) → DrvM × StoM × Int
  | [] => (d, x, 0)
  | z :: l => let r := mPut d x z.1.1 z.1.2 z.2; if r.2.2 ≠ 0 then r else mPuts r.1 r.2.1 l
def mReclaim (d : DrvM) (x : StoM) (b : Nat) (ms : List PageM) : DrvM × StoM × Int :=
  let r := mPuts d x ((spotsM x b).zip ms)
  if r.2.2 ≠ 0 then r else mRenew r.1 r.2.1 b
theorem mPuts_nil (d : DrvM) (x : StoM) : mPuts d x [] = (d, x, 0) := by rw [mPuts]
theorem mPuts_stop1 {d : DrvM} {x : StoM} {z : (Nat × Nat) × PageM} {l : List ((Nat × Nat) × PageM)} (h : (mPut d x z.1.1 z.1.2 z.2).2.2 ≠ 0) : mPuts d x (z :: l) = mPut d x z.1.1 z.1.2 z.2 := by
  rw [mPuts]
  exact if_pos h
theorem mPuts_go {d : DrvM} {x : StoM} {z : (Nat × Nat) × PageM} {l : List ((Nat × Nat) × PageM)} (h : (mPut d x z.1.1 z.1.2 z.2).2.2 = 0) : mPuts d x (z :: l) = mPuts (mPut d x z.1.1 z.1.2 z.2).1 (mPut d x z.1.1 z.1.2 z.2).2.1 l := by
  rw [mPuts]
  exact if_neg (fun h2 => h2 h)
theorem mPuts_snoc (z : (Nat × Nat) × PageM) (l : List ((Nat × Nat) × PageM)) (d : DrvM) (x : StoM) (h : (mPuts d x l).2.2 = 0) : mPuts d x (l ++ [z]) = mPut (mPuts d x l).1 (mPuts d x l).2.1 z.1.1 z.1.2 z.2 := by
  induction l generalizing d x with
  | nil =>
    rw [List.nil_append, mPuts_nil]
    by_cases h : (mPut d x z.1.1 z.1.2 z.2).2.2 = 0
    · rw [mPuts_go h, mPuts_nil]
      generalize mPut d x z.1.1 z.1.2 z.2 = r at h ⊢
      obtain ⟨r1, r2, r3⟩ := r
      simp only at h
      rw [h]
    · rw [mPuts_stop1 h]
  | cons y l ih =>
    by_cases h1 : (mPut d x y.1.1 y.1.2 y.2).2.2 = 0
    · rw [mPuts_go h1] at h ⊢
      rw [List.cons_append, mPuts_go h1]
      exact ih _ _ h
    · rw [mPuts_stop1 h1] at h
      exact absurd h h1
theorem mPuts_stop (m l : List ((Nat × Nat) × PageM)) (d : DrvM) (x : StoM) (h : (mPuts d x l).2.2 ≠ 0) : mPuts d x (l ++ m) = mPuts d x l := by
  induction l generalizing d x with
  | nil => rw [mPuts_nil] at h; exact absurd rfl h
  | cons y l ih =>
    by_cases h1 : (mPut d x y.1.1 y.1.2 y.2).2.2 = 0
    · rw [mPuts_go h1] at h ⊢
      rw [List.cons_append, mPuts_go h1]
      exact ih _ _ h
    · rw [List.cons_append, mPuts_stop1 h1, mPuts_stop1 h1]
theorem mPut_fst (d : DrvM) (x : StoM) (b i : Nat) (pg : PageM) : (mPut d x b i pg).1 = (dProgram d (pgAt b i) (pgWs pg)).1 := by
  unfold mPut
  generalize dProgram d (pgAt b i) (pgWs pg) = r
  by_cases h : r.2 ≠ 0
  · rw [if_pos h]
  · rw [if_neg h]
section
variable {B p f q s k g : Nat} {K : Nat → Prop} {d d' : DrvM} {x : StoM} {w w' : World}
theorem put_calm' (ok : DrvOk k d) (x : StoM) (b i : Nat) (pg : PageM) : DrvOk k (mPut d x b i pg).1 := by
  rw [mPut_fst]
  exact program_calm _ _ ok
theorem mPut_ticks (d : DrvM) (x : StoM) (b i : Nat) (pg : PageM) : d.t ≤ (mPut d x b i pg).1.t ∧ (mPut d x b i pg).1.t ≤ d.t + 21 := by
  rw [mPut_fst]
  have h := program_ticks (pgWs pg) d (pgAt b i)
  have hl := pgWs_len pg
  omega
theorem puts_calm : ∀ (l : List ((Nat × Nat) × PageM)) (d : DrvM) (x : StoM), DrvOk k d → DrvOk k (mPuts d x l).1
  | [], _, _, ok => by rw [mPuts_nil]; exact ok
  | y :: l, d, x, ok => by
    by_cases h1 : (mPut d x y.1.1 y.1.2 y.2).2.2 = 0
    · rw [mPuts_go h1]
      exact puts_calm l _ _ (put_calm' ok x _ _ _)
    · rw [mPuts_stop1 h1]
      exact put_calm' ok x _ _ _
theorem puts_ticks : ∀ (l : List ((Nat × Nat) × PageM)) (d : DrvM) (x : StoM), d.t ≤ (mPuts d x l).1.t ∧ (mPuts d x l).1.t ≤ d.t + 21 * l.length
  | [], d, _ => by rw [mPuts_nil]; exact ⟨Int.le_refl _, by simp⟩
  | y :: l, d, x => by
    have h0 := mPut_ticks d x y.1.1 y.1.2 y.2
    rw [List.length_cons]
    by_cases h1 : (mPut d x y.1.1 y.1.2 y.2).2.2 = 0
    · rw [mPuts_go h1]
      have h2 := puts_ticks l (mPut d x y.1.1 y.1.2 y.2).1 (mPut d x y.1.1 y.1.2 y.2).2.1
      omega
    · rw [mPuts_stop1 h1]
      omega
theorem reclaim_calm (ok : DrvOk k d) (x : StoM) (b : Nat) (ms : List PageM) : DrvOk k (mReclaim d x b ms).1 := by
  unfold mReclaim
  have h := puts_calm ((spotsM x b).zip ms) d x ok
  generalize mPuts d x ((spotsM x b).zip ms) = r at h
  by_cases h1 : r.2.2 ≠ 0
  · rw [if_pos h1]
    exact h
  · rw [if_neg h1]
    exact renew_calm h r.2.1 b
theorem spots_ok {x : StoM} {wo : Int} {z : Nat × Nat} (h : z ∈ spotsM x wo) : z.1 < x.bs.length ∧ z.2 < 8 := by
  have hu : ∀ y ∈ usL x, y.1 < x.bs.length := fun y hy => by
    obtain ⟨b, hb, e⟩ := List.mem_map.1 hy
    rw [← e]
    exact (mem_ordN.1 hb).1
  have key : ∀ (y : Nat × BlkM), y ∈ usL x → z ∈ frs y.1 y.2.kinds 8 → z.1 < x.bs.length ∧ z.2 < 8 := fun y hy hz => by
    obtain ⟨i, hi, e⟩ := List.mem_map.1 hz
    rw [← e]
    exact ⟨hu y hy, List.mem_range.1 (List.mem_filter.1 hi).1⟩
  rcases List.mem_append.1 h with h | h
  · obtain ⟨y, hy, hz⟩ := List.mem_flatMap.1 h
    split at hz
    · cases hz
    · exact key y hy hz
  · obtain ⟨y, hy, hz⟩ := List.mem_flatMap.1 h
    split at hz
    · cases hz
    · exact key y hy hz
theorem sps_at {w : World} {g : Nat} {l : List (Nat × Nat)} {rest : List Value} (h : At w g 212 (sps l ++ rest)) {j : Nat} {z : Nat × Nat} (hj : l[j]? = some z) : w.cell? ⟨g, j * 2, none⟩ = some (.int .i64 (z.1 : Int)) ∧ w.cell? ⟨g, j * 2 + 1, none⟩ = some (.int .i64 (z.2 : Int)) := by
  obtain ⟨hl, e⟩ := List.getElem?_eq_some_iff.1 hj
  have hs : l = l.take j ++ (z :: l.drop (j + 1)) := by
    rw [← e]
    simp
  have h2 : At w g 212 (sps (l.take j) ++ ([.int .i64 (z.1 : Int), .int .i64 (z.2 : Int)] ++ (sps (l.drop (j + 1)) ++ rest))) := by
    rw [hs, sps_append] at h
    simpa [sps, spC, List.append_assoc] using h
  have h3 := h2.range
  have hlen : (sps (l.take j)).length = j * 2 := by rw [sps_len, List.length_take, Nat.min_eq_left (by omega)]
  rw [hlen] at h3
  exact ⟨h3 0 _ rfl, h3 1 _ rfl⟩
set_option maxRecDepth 100000 in
set_option maxHeartbeats 4000000 in
theorem Sto.reclaim (h : Sto B p f q s k g K d x w) (ok : DrvOk k d) (b : Nat) (hb : b < k) (hk : k ≤ 19) {A : Option Addr} {n cap : Nat} {ms : List PageM} (hR : ReadsM w A n cap ms) (hA : ∀ a o, A = some ⟨a, o, none⟩ → K a) (hn : n ≤ (spotsM x b).length) (t0 : 0 ≤ d.t) (t1 : d.t ≤ 80000000000000) :
    Calls Tryz.prog 145 #[.pointer (some ⟨s, 0, none⟩), .int .i64 b, .slice A n cap] w (StoOut B p f q s k K (mReclaim d x b ms) w) := by
  have hk2 := h.k2
  have SP := Lib.hid (h.spots hk (b : Int) (by omega) (by omega))
  have HL8 : Hid ((spotsM x (b : Int)).length ≤ 1000) := Lib.hid (by
    have h1 := begunOf_len (b : Int) (usL x)
    have h2 := emptyOf_len (b : Int) (usL x)
    have h3 : (usL x).length ≤ 19 := by rw [usL_len]; have := ordN_len x; have := h.len; omega
    unfold spotsM
    rw [List.length_append]
    omega)
  have SOK : Hid (∀ z ∈ spotsM x (b : Int), z.1 < k ∧ z.2 < 8) := Lib.hid (fun z hz => by have := spots_ok hz; rw [h.len] at this; exact this)
  obtain ⟨L, hL⟩ : ∃ L, L = spotsM x (b : Int) := ⟨_, rfl⟩
  have HMR : Hid (mReclaim d x b ms = if (mPuts d x (L.zip ms)).2.2 ≠ 0 then mPuts d x (L.zip ms) else mRenew (mPuts d x (L.zip ms)).1 (mPuts d x (L.zip ms)).2.1 b) := Lib.hid (by rw [hL]; rfl)
  rw [← hL] at SP HL8 SOK hn
  have HH := Lib.hid h
  have HOK := Lib.hid ok
  have HRD := Lib.hid hR
  have HKA := Lib.hid hA
  have HN := Lib.hid hn
  have HT := Lib.hid (show 0 ≤ d.t ∧ d.t ≤ 80000000000000 from ⟨t0, t1⟩)
  have HBK := Lib.hid hb
  have LEN := len_pages A n cap
  obtain ⟨RR, hRR⟩ : ∃ r, r = mReclaim d x b ms := ⟨_, rfl⟩
  rw [← hRR] at HMR ⊢
  clear h ok hR hA hL hn t0 t1 hk2 hb hRR
  go_enter Tryz.func145, Tryz.ntmps145
  go_wp2_with (go_at_call 147; (with_reducible refine SP.out.mono ?_); rintro e w1 ⟨A5, cap5, rfl, hb1, hsp⟩; have HB1 := Lib.hid hb1; have HSP := Lib.hid hsp; clear hb1 hsp)
  obtain ⟨K2, hK2⟩ : ∃ K2 : Nat → Prop, K2 = fun j => K j ∨ (0 < L.length ∧ ∃ o, A5 = some ⟨j, o, none⟩) := ⟨_, rfl⟩
  have HS1 : Hid (Sto B p f q s k g K2 d x w1) := Lib.hid (HH.out.renew HOK.out.calm.job HB1.out (fun j e => by
    rw [hK2] at e
    rcases e with e | ⟨e0, o, e⟩
    · exact ⟨.inl e, Nat.lt_of_lt_of_le (HH.out.kin j e) HB1.out.size⟩
    · obtain ⟨gs, rest, e2, hgs, hat⟩ := HSP.out e0
      rw [e2] at e
      injection e with e
      injection e with e1 _ _
      subst e1
      exact ⟨.inr hgs, hat.lt⟩))
  have HKK : Hid (∀ j, K j → K2 j) := Lib.hid (fun j e => by rw [hK2]; exact .inl e)
  have HK5 : Hid (0 < L.length → ∀ j o, A5 = some ⟨j, o, none⟩ → K2 j) := Lib.hid (fun e0 j o e => by rw [hK2]; exact .inr ⟨e0, o, e⟩)
  have HRD1 := Lib.hid (HRD.out.kept HB1.out)
  have HTL := Lib.hid (fun j => puts_ticks ((L.zip ms).take j) d x)
  have HCL := Lib.hid (fun j => puts_calm ((L.zip ms).take j) d x HOK.out)
  have HMS := Lib.hid HRD.out.len
  clear hK2 LEN
  go_loopw [16] (fun i wr => ∃ j : Nat, j ≤ n ∧ i = .int .i64 j ∧ (mPuts d x ((L.zip ms).take j)).2.2 = 0 ∧ (∃ g', Sto B p f q s k g' K2 (mPuts d x ((L.zip ms).take j)).1 (mPuts d x ((L.zip ms).take j)).2.1 wr) ∧ Turned (May B K2) w1 wr) (fun i _ => n - (intOf i).toNat)
  case atStart => exact ⟨0, by omega, rfl, by rw [List.take_zero, mPuts_nil], ⟨g, by rw [List.take_zero, mPuts_nil]; exact HS1.out⟩, Turned.refl _ _⟩
  case round =>
    obtain ⟨j, hj, rfl, he, ⟨g', hs⟩, htn⟩ := hrel
    have HE := Lib.hid he
    have HS := Lib.hid hs
    have HTN := Lib.hid htn
    have HTJ := Lib.hid (HTL.out j)
    have HCJ := Lib.hid (HCL.out j)
    clear he hs htn
    by_cases hlt : j < n
    · have i0 : (0 : Int) ≤ (j : Int) := by omega
      have i1 : (j : Int) < (n : Int) := by omega
      have i2 : (j : Int) < (L.length : Int) := by have := HN.out; omega
      have i3 : (j : Int) < 1000 := by have := HN.out; have := HL8.out; omega
      have hlj : j < L.length := by have := HN.out; omega
      have hlm : j < ms.length := by rw [HMS.out]; exact hlt
      obtain ⟨gs, rest, rfl, hgs, hat⟩ := HSP.out (by omega)
      obtain ⟨z, hz⟩ : ∃ z, L[j]? = some z := ⟨_, List.getElem?_eq_getElem hlj⟩
      have HZ := Lib.hid hz
      have hzk := SOK.out z (List.mem_of_getElem? hz)
      have HZK := Lib.hid hzk
      have hat2 : At wr gs 212 (sps L ++ rest) := hat.kept HTN.out (fun e => e.2 (HK5.out (by omega) gs 0 rfl))
      have HAT := Lib.hid hat2
      obtain ⟨cz1, cz2⟩ := sps_at hat2 hz
      have HC1 := Lib.hid cz1
      have HC2 := Lib.hid cz2
      have HRJ := Lib.hid (HRD1.out.turned HTN.out (fun a o e he => he.2 (HKK.out _ (HKA.out a o e))))
      obtain ⟨ga, off, rfl, hga, hr⟩ := HRJ.out.at_ hlt
      have HR' := Lib.hid hr
      have HTK : Hid ((L.zip ms).take (j + 1) = (L.zip ms).take j ++ [(z, pgN ms j)]) := Lib.hid (by
        rw [List.take_add_one, (List.getElem?_zip_eq_some (z := (z, pgN ms j))).2 ⟨hz, pgN_get hlm⟩]
        rfl)
      clear hr hga hat hat2 hz hzk cz1 cz2 hgs
      obtain ⟨pg, hpg⟩ : ∃ pg, pg = pgN ms j := ⟨_, rfl⟩
      rw [← hpg] at HR' HTK
      obtain ⟨R0, hR0⟩ : ∃ R0, R0 = mPuts d x ((L.zip ms).take j) := ⟨_, rfl⟩
      rw [← hR0] at HE HS HTJ HCJ
      obtain ⟨r, hr⟩ : ∃ r, r = mPut R0.1 R0.2.1 z.1 z.2 pg := ⟨_, rfl⟩
      have HR1 : Hid (mPuts d x ((L.zip ms).take (j + 1)) = r) := Lib.hid (by rw [HTK.out, mPuts_snoc _ _ _ _ (by rw [← hR0]; exact HE.out), hr, hR0])
      have PUT : Hid (∀ W, Below wr.heap.size wr W → Calls Tryz.prog 148 #[.pointer (some ⟨s, 0, none⟩), .agg #[.int .i64 (z.1 : Int), .int .i64 (z.2 : Int)], pgV pg] W (StoOut B p f q s k K2 r W)) := Lib.hid (fun W hb => by
        rw [hr]
        have h1 := HTJ.out
        have h2 := HT.out
        have h3 : ((L.zip ms).take j).length ≤ 1000 := by rw [List.length_take, List.length_zip]; have := HL8.out; omega
        exact (HS.out.below hb).put HCJ.out z.1 z.2 HZK.out.1 HZK.out.2 pg (by omega) (by omega))
      unfold pgV at PUT
      clear hpg hR0 hr
      go_upto_region 5 with (first
        | (refine wpList_ldr _ rfl rfl rfl Tryz.underlying73 rfl ppg_sizeM (pgC_len _) HR'.out ?_)
        | (refine wpList_stm (pre := []) (post := []) (xs := pgC pg0) (ys := pgC pg) _ _ rfl rfl rfl rfl ppg_sizeM (pgC_len _) (pgC_len _) (pgC_one _) rfl (by simp) (At.news wr _ (pgC pg0)) ?_; intro w4 A4 T4; rw [List.nil_append, List.append_nil] at A4; have HA4 := Lib.hid A4; have HB4 : Hid (Below wr.heap.size wr w4) := Lib.hid (((Below.refl _ wr).alloc (Nat.le_refl _) _).trans (T4.below (fun i hi => by unfold Just at hi; omega) (by simp))); clear A4 T4))
      have p0 : w4.cell? ⟨wr.heap.size, 0, none⟩ = some (.int .u32 (U pg.s)) := HA4.out.cell 0
      have p1 : w4.cell? ⟨wr.heap.size, 1, none⟩ = some (.int .u32 (U pg.q)) := HA4.out.cell 1
      have p2 : w4.cell? ⟨wr.heap.size, 2, none⟩ = some (.bool pg.g) := HA4.out.cell 2
      have p3 : w4.cell? ⟨wr.heap.size, 3, none⟩ = some (.int .u32 (U pg.d0)) := HA4.out.cell 3
      have p4 : w4.cell? ⟨wr.heap.size, 4, none⟩ = some (.int .u32 (U pg.d1)) := HA4.out.cell 4
      have p5 : w4.cell? ⟨wr.heap.size, 5, none⟩ = some (.int .u32 (U pg.d2)) := HA4.out.cell 5
      have p6 : w4.cell? ⟨wr.heap.size, 6, none⟩ = some (.int .u32 (U pg.d3)) := HA4.out.cell 6
      have s1 : w4.cell? ⟨gs, j * 2, none⟩ = some (.int .i64 (z.1 : Int)) := (HB4.out.cell (p := ⟨gs, j * 2, none⟩) HAT.out.lt).trans HC1.out
      have s2 : w4.cell? ⟨gs, j * 2 + 1, none⟩ = some (.int .i64 (z.2 : Int)) := (HB4.out.cell (p := ⟨gs, j * 2 + 1, none⟩) HAT.out.lt).trans HC2.out
      go_region_with ((first
        | (go_at_call 148; (refine (PUT.out _ (by first | exact HB4.out | exact HB4.out.drew)).mono ?_); rintro e w5 ⟨rfl, hs5, ht5⟩; have HS5 := Lib.hid hs5; have ht5' : Turned (May B K2) w4 w5 := ⟨ht5.os, ht5.tape, ht5.output, ht5.size, ht5.block⟩; have HT5 := Lib.hid ht5'; clear hs5 ht5 ht5')))
      all_goals
        have HTF : Hid (Turned (May B K2) w1 w5) := Lib.hid (HTN.out.trans ((Turned.of_below HB4.out (Nat.le_refl _) _).trans HT5.out))
        by_cases e0 : r.2.2 = 0
        · have HE0 := Lib.hid e0
          have e1 : (r.2.2 != 0) = false := by rw [bne_eq_false_iff_eq]; exact e0
          clear e0
          go_wp2_with fail
          go_roundw
          case rel => exact ⟨j + 1, by omega, by go_num, by rw [HR1.out]; exact HE0.out, by rw [HR1.out]; exact HS5.out, HTF.out⟩
          case measure => simp [intOf]; omega
        · have HE0 := Lib.hid e0
          have e1 : (r.2.2 != 0) = true := by rw [bne_iff_ne]; exact e0
          clear e0
          have HRF : Hid (RR = r) := Lib.hid (by
            have h1 : mPuts d x (L.zip ms) = r := by
              have h2 := mPuts_stop ((L.zip ms).drop (j + 1)) ((L.zip ms).take (j + 1)) d x (by rw [HR1.out]; exact HE0.out)
              rw [List.take_append_drop, HR1.out] at h2
              exact h2
            rw [HMR.out, h1, if_pos HE0.out])
          go_wp2_with fail
          go_ret
          obtain ⟨g9, h9⟩ := HS5.out
          rw [HRF.out]
          exact ⟨rfl, ⟨g9, h9.less HKK.out⟩, (Turned.of_below HB1.out (Nat.le_refl _) _).trans (may_less HTF.out HKK.out)⟩
    · have hjn : j = n := by omega
      subst hjn
      obtain ⟨R0, hR0⟩ : ∃ R0, R0 = mPuts d x ((L.zip ms).take j) := ⟨_, rfl⟩
      have h4 : ((L.zip ms).take j).length ≤ 1000 := by rw [List.length_take, List.length_zip]; have := HL8.out; omega
      have hall : (L.zip ms).take j = L.zip ms := List.take_of_length_le (by rw [List.length_zip, HMS.out]; exact Nat.min_le_right _ _)
      rw [← hR0] at HE HS HTJ HCJ
      have HRF : Hid (RR = mRenew R0.1 R0.2.1 b) := Lib.hid (by
        have h1 : mPuts d x (L.zip ms) = R0 := by rw [hR0, hall]
        rw [HMR.out, h1, if_neg (fun h => h HE.out)])
      obtain ⟨r, hr⟩ : ∃ r, r = mRenew R0.1 R0.2.1 b := ⟨_, rfl⟩
      have RN : Hid (Calls Tryz.prog 34 #[.pointer (some ⟨s, 0, none⟩), .int .i64 (b : Int)] wr (StoOut B p f q s k K2 r wr)) := Lib.hid (by
        rw [hr]
        have h1 := HTJ.out
        have h2 := HT.out
        exact HS.out.renews HCJ.out b HBK.out (by omega) (by omega))
      rw [← hr] at HRF
      clear hR0 hr h4 hall
      go_wp2_with (go_at_call 34; (refine RN.out.mono ?_); rintro e w5 ⟨rfl, hs5, ht5⟩; have HS5 := Lib.hid hs5; have HT5 := Lib.hid ht5; clear hs5 ht5)
      go_ret
      obtain ⟨g9, h9⟩ := HS5.out
      rw [HRF.out]
      exact ⟨rfl, ⟨g9, h9.less HKK.out⟩, (Turned.of_below HB1.out (Nat.le_refl _) _).trans (may_less (HTN.out.trans HT5.out) HKK.out)⟩
end
end Go.Proofs.YtpkkejdjhnmjiaaGreat
namespace Go.Proofs.YtpkkejdjhnmjiaaGreat
open Go.RowKit Bm Go.Shelf
def mRenews (d : DrvM) (x : StoM) : List Nat → DrvM × StoM × Int
  | [] => (d, x, 0)
  | b :: l => let r := mRenew d x b; if r.2.2 ≠ 0 then r else mRenews r.1 r.2.1 l
theorem mRenews_nil (d : DrvM) (x : StoM) : mRenews d x [] = (d, x, 0) := by rw [mRenews]
theorem mRenews_stop1 {d : DrvM} {x : StoM} {z : Nat} {l : List Nat} (h : (mRenew d x z).2.2 ≠ 0) : mRenews d x (z :: l) = mRenew d x z := by
  rw [mRenews]
  exact if_pos h
theorem mRenews_go {d : DrvM} {x : StoM} {z : Nat} {l : List Nat} (h : (mRenew d x z).2.2 = 0) : mRenews d x (z :: l) = mRenews (mRenew d x z).1 (mRenew d x z).2.1 l := by
  rw [mRenews]
  exact if_neg (fun h2 => h2 h)
theorem mRenews_snoc (z : Nat) (l : List Nat) (d : DrvM) (x : StoM) (h : (mRenews d x l).2.2 = 0) : mRenews d x (l ++ [z]) = mRenew (mRenews d x l).1 (mRenews d x l).2.1 z := by
  induction l generalizing d x with
  | nil =>
    rw [List.nil_append, mRenews_nil]
    by_cases h : (mRenew d x z).2.2 = 0
    · rw [mRenews_go h, mRenews_nil]
      generalize mRenew d x z = r at h ⊢
      obtain ⟨r1, r2, r3⟩ := r
      simp only at h
      rw [h]
    · rw [mRenews_stop1 h]
  | cons y l ih =>
    by_cases h1 : (mRenew d x y).2.2 = 0
    · rw [mRenews_go h1] at h ⊢
      rw [List.cons_append, mRenews_go h1]
      exact ih _ _ h
    · rw [mRenews_stop1 h1] at h
      exact absurd h h1
theorem mRenews_stop (m l : List Nat) (d : DrvM) (x : StoM) (h : (mRenews d x l).2.2 ≠ 0) : mRenews d x (l ++ m) = mRenews d x l := by
  induction l generalizing d x with
  | nil => rw [mRenews_nil] at h; exact absurd rfl h
  | cons y l ih =>
    by_cases h1 : (mRenew d x y).2.2 = 0
    · rw [mRenews_go h1] at h ⊢
      rw [List.cons_append, mRenews_go h1]
      exact ih _ _ h
    · rw [List.cons_append, mRenews_stop1 h1, mRenews_stop1 h1]
theorem mRenew_fst (d : DrvM) (x : StoM) (b : Nat) : (mRenew d x b).1 = (mRemake d x b).1 := by
  unfold mRenew
  generalize mRemake d x b = r
  by_cases h : r.2.2 = 5
  · rw [if_pos h]
  · rw [if_neg h]
theorem mRenew_ticks (d : DrvM) (x : StoM) (b : Nat) : d.t ≤ (mRenew d x b).1.t ∧ (mRenew d x b).1.t ≤ d.t + 100 := by
  rw [mRenew_fst]
  unfold mRemake
  have h1 := program_ticks [0#32] d ((b : Int) * 64 + 3)
  generalize dProgram d ((b : Int) * 64 + 3) [0#32] = r1 at h1 ⊢
  have l1 : ([0#32] : List (BitVec 32)).length = 1 := rfl
  rw [l1] at h1
  by_cases e1 : r1.2 ≠ 0
  · rw [if_pos e1]
    exact ⟨h1.1, by have := h1.2; show r1.1.t ≤ _; omega⟩
  · rw [if_neg e1]
    have h2 := erase_ticks r1.1 b
    generalize dErase r1.1 b = r2 at h2 ⊢
    by_cases e2 : r2.2 ≠ 0
    · rw [if_pos e2]
      exact ⟨by have := h1.1; have := h2.1; show d.t ≤ r2.1.t; omega, by have := h1.2; have := h2.2; show r2.1.t ≤ _; omega⟩
    · rw [if_neg e2]
      have h3 := program_ticks (hdWs (ncM x.bs b)) r2.1 ((b : Int) * 64)
      have l3 : (hdWs (ncM x.bs b)).length ≤ 4 := by have := hdWs_len (ncM x.bs b); omega
      generalize dProgram r2.1 ((b : Int) * 64) (hdWs (ncM x.bs b)) = r3 at h3 ⊢
      by_cases e3 : r3.2 ≠ 0
      · rw [if_pos e3]
        exact ⟨by have := h1.1; have := h2.1; have := h3.1; show d.t ≤ r3.1.t; omega, by have := h1.2; have := h2.2; have := h3.2; show r3.1.t ≤ _; omega⟩
      · rw [if_neg e3]
        exact ⟨by have := h1.1; have := h2.1; have := h3.1; show d.t ≤ r3.1.t; omega, by have := h1.2; have := h2.2; have := h3.2; show r3.1.t ≤ _; omega⟩
section
variable {B p f q s k g : Nat} {K : Nat → Prop} {d d' : DrvM} {x : StoM} {w w' : World}
theorem renews_calm (l : List Nat) (d : DrvM) (x : StoM) (ok : DrvOk k d) : DrvOk k (mRenews d x l).1 := by
  induction l generalizing d x with
  | nil => rw [mRenews_nil]; exact ok
  | cons y l ih =>
    by_cases h1 : (mRenew d x y).2.2 = 0
    · rw [mRenews_go h1]
      exact ih _ _ (renew_calm ok x y)
    · rw [mRenews_stop1 h1]
      exact renew_calm ok x y
theorem renews_ticks (l : List Nat) (d : DrvM) (x : StoM) : d.t ≤ (mRenews d x l).1.t ∧ (mRenews d x l).1.t ≤ d.t + 100 * l.length := by
  induction l generalizing d x with
  | nil => rw [mRenews_nil]; exact ⟨Int.le_refl _, by simp⟩
  | cons y l ih =>
    have h0 := mRenew_ticks d x y
    rw [List.length_cons]
    by_cases h1 : (mRenew d x y).2.2 = 0
    · rw [mRenews_go h1]
      have h2 := ih (mRenew d x y).1 (mRenew d x y).2.1
      omega
    · rw [mRenews_stop1 h1]
      omega
set_option maxRecDepth 100000 in
theorem Sto.renewAll (h : Sto B p f q s k g K d x w) (ok : DrvOk k d) (t0 : 0 ≤ d.t) (t1 : d.t ≤ 80000000000000) :
    Calls Tryz.prog 17 #[.pointer (some ⟨s, 0, none⟩)] w (StoOut B p f q s k K (mRenews d x (List.range k)) w) := by
  have hk2 := h.k2
  have c1 : w.cell? ⟨s, 1, none⟩ = some (.slice (some ⟨g, 0, none⟩) k k) := by rw [h.c1, h.len]
  obtain ⟨RR, hRR⟩ : ∃ r, r = mRenews d x (List.range k) := ⟨_, rfl⟩
  have HRR := Lib.hid hRR
  rw [← hRR]
  have HH := Lib.hid h
  have HT := Lib.hid (show 0 ≤ d.t ∧ d.t ≤ 80000000000000 from ⟨t0, t1⟩)
  have HTL := Lib.hid (fun j => renews_ticks (List.range j) d x)
  have HCL := Lib.hid (fun j => renews_calm (List.range j) d x ok)
  clear h ok t0 t1 hRR
  go_enter Tryz.func17, Tryz.ntmps17
  go_wp2
  go_loopw [10] (fun i wr => ∃ j : Nat, j ≤ k ∧ i = .int .i64 j ∧ (mRenews d x (List.range j)).2.2 = 0 ∧ (∃ g', Sto B p f q s k g' K (mRenews d x (List.range j)).1 (mRenews d x (List.range j)).2.1 wr) ∧ Turned (May B K) w wr) (fun i _ => k - (intOf i).toNat)
  case atStart => exact ⟨0, by omega, rfl, by rw [List.range_zero, mRenews_nil], ⟨g, by rw [List.range_zero, mRenews_nil]; exact HH.out⟩, Turned.refl _ _⟩
  case round =>
    obtain ⟨j, hj, rfl, he, ⟨g', hs⟩, htn⟩ := hrel
    obtain ⟨R0, hR0⟩ : ∃ R0, R0 = mRenews d x (List.range j) := ⟨_, rfl⟩
    rw [← hR0] at he hs
    have HE := Lib.hid he
    have HS := Lib.hid hs
    have HTN := Lib.hid htn
    have HTJ := Lib.hid (HTL.out j)
    have HCJ := Lib.hid (HCL.out j)
    rw [← hR0] at HTJ HCJ
    have HR0 := Lib.hid hR0
    clear he hs htn hR0 c1
    by_cases hlt : j < k
    · have i0 : (0 : Int) ≤ (j : Int) := by omega
      have i1 : (j : Int) < (k : Int) := by omega
      have i2 : (k : Int) ≤ 64 := by omega
      obtain ⟨r, hr⟩ : ∃ r, r = mRenew R0.1 R0.2.1 j := ⟨_, rfl⟩
      have HR1 : Hid (mRenews d x (List.range (j + 1)) = r) := Lib.hid (by rw [List.range_succ, mRenews_snoc _ _ _ _ (by rw [← HR0.out]; exact HE.out), hr, HR0.out])
      have RN : Hid (Calls Tryz.prog 34 #[.pointer (some ⟨s, 0, none⟩), .int .i64 (j : Int)] wr (StoOut B p f q s k K r wr)) := Lib.hid (by
        rw [hr]
        have h1 := HTJ.out
        have h2 := HT.out
        rw [List.length_range] at h1
        exact HS.out.renews HCJ.out j hlt (by omega) (by omega))
      clear hr
      by_cases e0 : r.2.2 = 0
      · have HE0 := Lib.hid e0
        have e1 : (r.2.2 != 0) = false := by rw [bne_eq_false_iff_eq]; exact e0
        clear e0
        go_wp2_with (go_at_call 34; (refine RN.out.mono ?_); rintro e w5 ⟨rfl, hs5, ht5⟩; have HS5 := Lib.hid hs5; have HT5 := Lib.hid ht5; clear hs5 ht5)
        go_roundw
        case rel => exact ⟨j + 1, by omega, by go_num, by rw [HR1.out]; exact HE0.out, by rw [HR1.out]; exact HS5.out, HTN.out.trans HT5.out⟩
        case measure => simp [intOf]; omega
      · have HE0 := Lib.hid e0
        have e1 : (r.2.2 != 0) = true := by rw [bne_iff_ne]; exact e0
        clear e0
        have HRF : Hid (RR = r) := Lib.hid (by
          have hsp : List.range k = List.range (j + 1) ++ (List.range k).drop (j + 1) := by
            have := List.take_append_drop (j + 1) (List.range k)
            rw [List.take_range, Nat.min_eq_left (by omega)] at this
            exact this.symm
          have h2 := mRenews_stop ((List.range k).drop (j + 1)) (List.range (j + 1)) d x (by rw [HR1.out]; exact HE0.out)
          rw [← hsp, HR1.out] at h2
          rw [HRR.out, h2])
        go_wp2_with (go_at_call 34; (refine RN.out.mono ?_); rintro e w5 ⟨rfl, hs5, ht5⟩; have HS5 := Lib.hid hs5; have HT5 := Lib.hid ht5; clear hs5 ht5)
        go_ret
        rw [HRF.out]
        exact ⟨rfl, HS5.out, HTN.out.trans HT5.out⟩
    · have hjk : j = k := by omega
      subst hjk
      go_wp2
      go_ret
      have h1 : RR = R0 := by rw [HRR.out, HR0.out]
      rw [h1]
      exact ⟨by rw [HE.out] <;> rfl, ⟨g', HS.out⟩, HTN.out⟩
end
end Go.Proofs.YtpkkejdjhnmjiaaGreat
namespace Go.Proofs.YtpkkejdjhnmjiaaGreat
open Go.RowKit Bm Go.Shelf
section
variable {B p f q s k g : Nat} {K : Nat → Prop} {d d' : DrvM} {x : StoM} {w w' : World}
end
end Go.Proofs.YtpkkejdjhnmjiaaGreat
