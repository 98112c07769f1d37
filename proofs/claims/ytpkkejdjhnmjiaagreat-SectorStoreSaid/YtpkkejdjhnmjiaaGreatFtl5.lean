/- Are there blocks enough that stay empty? | The block that is the cheapest to reclaim. -/
import Derived.Test.YtpkkejdjhnmjiaaGreatFtlM
import Derived.Stop.RegionWithIn
namespace Go.Proofs.YtpkkejdjhnmjiaaGreat
open Go.RowKit Bm Go.Shelf
attribute [local go_sem] Oper.semAt_some
section
variable {P : Program} {ops : Array Oper} {rest : List Oper} {o : Oper} {a : Go.Act} {w : World} {Q : Exit → Go.Act → World → Prop} {l m g off n : Nat} {ty : TypeId} {xs : List Value} {d : TypeDesc}
theorem wpListIn_ldr_g (x : Operand) (hw : Region.wanted o (yielded ops a.tmps) = true) (ho : o.op = .load ty x) (hx : a.eval x = .pointer (some ⟨g, off, none⟩)) (hu : P.underlying ty = some d) (hd : d.isRow = true) (hi : (P.info? ty).map (·.size) = some n) (hn : xs.length = n) (hc : w.rangeAt g off xs)
    (h : wpListIn (Fence.wide.inRound l) m P ops Q rest (a.put o.dst (.agg xs.toArray)) w) : wpListIn (Fence.wide.inRound l) m P ops Q (o :: rest) a w := by
  unfold wpListIn
  rw [if_pos hw]
  exact oper_in (by unfold calmOper; rw [ho]) (wp_load_mid ty x ho g off hx xs d hc hu hd (by rw [hi, hn]) h)
end
def cntE (b : Nat) (l : List (Nat × BlkM)) : Nat := (l.filter fun y => decide (y.1 ≠ b) && bkEmpty y.2).length
theorem cntE_snoc (b : Nat) (l : List (Nat × BlkM)) (y : Nat × BlkM) : cntE b (l ++ [y]) = cntE b l + if y.1 ≠ b ∧ bkEmpty y.2 = true then 1 else 0 := by
  unfold cntE
  rw [List.filter_append, List.length_append]
  congr 1
  by_cases h : y.1 = b
  · simp [h]
  · cases h2 : bkEmpty y.2 <;> simp [h, h2]
theorem cntE_len (b : Nat) (l : List (Nat × BlkM)) : cntE b l ≤ l.length := List.length_filter_le _ _
def roomyL (x : StoM) : List (Nat × Nat) → Bool
  | [] => false
  | y :: _ => decide (spareM x.ret ≤ (cntE y.1 (usL x) : Int))
def roomyM (x : StoM) : Bool := roomyL x (spotsM x (-1))
theorem len_spots (A : Option Addr) (n cap : Nat) (W : World) : (Builtin.len_ #[208] 3 #[Value.slice A n cap]).run Tryz.prog W = .ok (.int .i64 n) W := by
  cases A <;> simp [Builtin.len_, go_sem]
section
variable {B p f q s k g : Nat} {K : Nat → Prop} {d : DrvM} {x : StoM} {w w' : World}
set_option maxRecDepth 100000 in
set_option maxHeartbeats 4000000 in
theorem Sto.roomy (h : Sto B p f q s k g K d x w) (hk : k ≤ 19) :
    Calls Tryz.prog 150 #[.pointer (some ⟨s, 0, none⟩)] w fun e w' => e = .returned (.bool (roomyM x)) ∧ Below w.heap.size w w' := by
  have hzb := bk_zero
  have HH := Lib.hid h
  have hss := h.own.lt
  have hgg := h.row.lt
  have HLN := Lib.hid h.len
  have SP := Lib.hid (h.spots hk (-1) (by omega) (by omega))
  obtain ⟨L, hL⟩ : ∃ L, L = spotsM x (-1) := ⟨_, rfl⟩
  have HR : Hid (roomyM x = roomyL x L) := Lib.hid (by rw [hL]; rfl)
  rw [← hL] at SP
  clear h hL
  refine (callsIn_wide (n := 10)).1 ?_
  refine callsIn_of_wp_marks Tryz.func150 rfl trivial ?_
  simp only [Tryz.ntmps150, List.size_toArray, List.length_cons, List.length_nil, Nat.reduceAdd, Nat.reduceSub, Array.replicate_succ, Array.replicate_zero, List.push_toArray, List.append_toArray, List.nil_append, List.cons_append]
  cases L with
  | nil =>
    gi_wp2_with (first
      | (refine ⟨trivial, ?_⟩; gi_at_call 147; refine (callsIn_wide.2 SP.out).mono ?_; rintro e w1 ⟨A, cap, rfl, hb, -⟩; have HB := Lib.hid hb; have LEN := len_spots A 0 cap; clear hb))
    exact post_ret (results_tmp rfl _ _ _) ⟨by rw [HR.out]; rfl, HB.out.alloc HB.out.size _⟩
  | cons y ys =>
    have l0 : (((y :: ys).length : Int) == 0) = false := by rw [beq_eq_false_iff_ne, List.length_cons]; omega
    have l1 : 0 < (y :: ys).length := by rw [List.length_cons]; omega
    obtain ⟨n, hn⟩ : ∃ n, n = (y :: ys).length := ⟨_, rfl⟩
    rw [← hn] at SP l0 l1
    clear hn
    gi_wp2_with (first
      | (refine ⟨trivial, ?_⟩; gi_at_call 147; refine (callsIn_wide.2 SP.out).mono ?_; rintro e w1 ⟨A, cap, rfl, hb, hsp⟩; have HB := Lib.hid hb; have HSP := Lib.hid hsp; have LEN := len_spots A n cap; clear hb hsp)
      | (refine ⟨trivial, ?_⟩; gi_at_call 153; refine (callsIn_wide.2 (usable_of _ _)).mono ?_; rintro e w' ⟨rfl, rfl⟩))
    obtain ⟨gs, rest, rfl, hgs, hat⟩ := HSP.out l1
    have HGL : Hid (gs < w1.heap.size) := Lib.hid hat.lt
    have HYR := HR.out
    obtain ⟨V, hV⟩ : ∃ V, ((w1.alloc (.cells #[.slice (some ⟨gs, 0, none⟩) n cap] 208)).alloc (.cells #[.int .i64 0] 3)).alloc (.cells #[.pointer (some ⟨s, 0, none⟩)] 30) = V := ⟨_, rfl⟩
    have vs : V.heap.size = w1.heap.size + 3 := by rw [← hV]; simp
    have v3 : At V w1.heap.size 208 [.slice (some ⟨gs, 0, none⟩) n cap] := by rw [← hV]; exact ((At.news w1 _ _).alloc _).alloc _
    have v4 : At V (w1.heap.size + 1) 3 [.int .i64 0] := by rw [← hV]; exact (At.alloc_new _ _ _ (by simp) rfl).alloc _
    have vN : At V (w1.heap.size + 2) 30 [.pointer (some ⟨s, 0, none⟩)] := by rw [← hV]; exact At.alloc_new _ _ _ (by simp) rfl
    have vG : At V gs 212 (sps (y :: ys) ++ rest) := by rw [← hV]; exact ((hat.alloc _).alloc _).alloc _
    have vb : Below w.heap.size w V := by
      rw [← hV]
      have hb := HB.out
      exact ((hb.alloc hb.size _).alloc (by simp; have := hb.size; omega) _).alloc (by simp; have := hb.size; omega) _
    have HVS := Lib.hid vs
    have HV3 := Lib.hid v3
    have HVG := Lib.hid vG
    have HVB := Lib.hid vb
    have hU := HH.out.us hk (N := w1.heap.size + 2) vb vN
    have I0 : At V (w1.heap.size + 1) 3 [.int .i64 ((cntE y.1 ((usL x).take 0) : Nat) : Int)] ∧ Turned (Just (w1.heap.size + 1)) V V := ⟨v4, Turned.refl _ _⟩
    have hO : OwnFrom V.heap.size (fun (i : Nat) X => At X (w1.heap.size + 1) 3 [.int .i64 ((cntE y.1 ((usL x).take i) : Nat) : Int)] ∧ Turned (Just (w1.heap.size + 1)) V X) := OwnFrom.and (At.own_from (f := fun i => [.int .i64 ((cntE y.1 ((usL x).take i) : Nat) : Int)])) (Turned.own (Nat.le_refl _))
    have HO := Lib.hid hO
    rw [hV]
    clear hV vs v3 v4 vN vG vb hgs hat HSP LEN HYR l0 SP
    refine range_outer (gf := 159) (lb := #[.pointer (some ⟨w1.heap.size + 2, 0, none⟩)]) (encs := usE) (Kp := KpU V.heap.size (Kb3 (w1.heap.size + 2) s g)) (xs := usL x) (w0 := V) (m := 8)
      (I := fun (i : Nat) X => At X (w1.heap.size + 1) 3 [.int .i64 ((cntE y.1 ((usL x).take i) : Nat) : Int)] ∧ Turned (Just (w1.heap.size + 1)) V X)
      (Ix := fun _ _ _ => False)
      rfl (enters_of Tryz.func159 (by kernel_rfl) rfl) (us_seq _ (.inl rfl) (.inr (.inl rfl)) (.inr (.inr rfl)) hU) (Below.refl _ _) KpU.trans (fun W l o o' _ h1 h2 _ => KpU.put W l o o' h1 h2) (fun _ => rfl)
      hO (fun _ _ _ _ _ hs _ _ => hs) I0 ?rnd ?dn ?st
    case rnd =>
      rintro l2 i z X hl2 ⟨rr, hrr⟩ hS hx
      have HTK : Hid (((usL x).take i).length ≤ 19) := Lib.hid (by rw [List.length_take, usL_len]; have := ordN_len x; have := HLN.out; omega)
      have hzx : z ∈ usL x := List.mem_of_getElem? hx
      have HOK : Hid (BlkOk z.2) := Lib.hid (by
        obtain ⟨b, hb, e⟩ := List.mem_map.1 hzx
        rw [← e]
        exact HH.out.ok _ (List.mem_of_getElem? (bkN_get (mem_ordN.1 hb).1)))
      have HB1 : Hid ((usL x).take (i + 1) = (usL x).take i ++ [z]) := Lib.hid (by rw [List.take_add_one, hx]; rfl)
      have HYL := Lib.hid (bk_len HOK.out)
      have HS := Lib.hid hS
      clear hx hzx hS hrr
      unfold usE bkV
      gi_wp2_with (refine wpListIn_stm (pre := []) (post := []) (xs := bkC bk0) (ys := bkC z.2) _ _ rfl rfl rfl rfl bk_size (by rfl) HYL.out (bk_one _) rfl (by simp) (At.news X _ (bkC bk0)) ?_; intro X1 A1 T1; rw [List.nil_append, List.append_nil] at A1; have HA1 := Lib.hid A1; have HT1 := Lib.hid T1; clear A1 T1)
      have TX : Turned NoBlock X X1 := ((Turned.refl NoBlock X).alloc _).after HT1.out (fun k hk he => by unfold Just at he; omega)
      have bX : Below X.heap.size X X1 := TX.below (fun k hk => hk.elim) (Nat.le_refl _)
      refine ⟨TX.from _ (fun k hk => hk.elim), KpU.turned TX (fun _ _ _ hk => hk.elim), ownJ_below HO.out HS.out bX, ?_⟩
      intro X2 hmk
      have hs2 := hmk.own HO.out hl2 (ownJ_below HO.out HS.out bX)
      have HS2 := Lib.hid hs2
      have HYA : Hid (At X2 X.heap.size 147 (bkC z.2)) := Lib.hid (hmk.at_ HA1.out)
      obtain ⟨c, hc⟩ : ∃ c, c = cntE y.1 ((usL x).take i) := ⟨_, rfl⟩
      have HC := Lib.hid hc
      have hc19 : (c : Int) ≤ 19 := by have := cntE_len y.1 ((usL x).take i); have := HTK.out; omega
      have hc0 : (0 : Int) ≤ (c : Int) := by omega
      have hA4 := hs2.1
      rw [← hc] at hA4
      have HA4 := Lib.hid hA4
      have hw3 := HV3.out.kept hs2.2 (by unfold Just; omega)
      have hwg := HVG.out.kept hs2.2 (by unfold Just; have := HGL.out; omega)
      have c3 := hw3.cell 0
      have cg : X2.cell? ⟨gs, 0, none⟩ = some (.int .i64 (y.1 : Int)) := hwg.cell 0
      have c4 := hA4.cell 0
      have f4 := hA4.frozen 0
      simp only [List.getElem?_cons_zero] at c3 c4
      have SE := Lib.hid (fun W => sempty_any z.2 HOK.out W)
      unfold bkV at SE
      have FIN : Hid (∀ Y, (At Y (w1.heap.size + 1) 3 [.int .i64 ((cntE y.1 ((usL x).take (i + 1)) : Nat) : Int)]) → Turned (Just (w1.heap.size + 1)) X2 Y → postI V.heap.size (KpU V.heap.size (Kb3 (w1.heap.size + 2) s g)) (fun (i : Nat) X => At X (w1.heap.size + 1) 3 [.int .i64 ((cntE y.1 ((usL x).take i) : Nat) : Int)] ∧ Turned (Just (w1.heap.size + 1)) V X) (fun _ _ _ => False) i X2 .normal { tmps := #[], defers := [] } Y) := Lib.hid fun Y hY hT =>
        ⟨keeps_cells hT (fun k hk => ⟨_, _, (show k = w1.heap.size + 1 from hk) ▸ HA4.out⟩) _, KpU.turned hT (fun k t cs hk hA => by
          have e : k = w1.heap.size + 1 := hk
          have := HVS.out
          have := HB.out.size
          exact ⟨fun h => by rcases h with h | h | h <;> omega, fun h => by omega⟩), hY, HS2.out.2.trans hT⟩
      clear hs2 hA4 hw3 hwg hc TX bX hmk
      by_cases hzy : z.1 = y.1
      · have HE : Hid (cntE y.1 ((usL x).take (i + 1)) = c) := Lib.hid (by rw [HB1.out, cntE_snoc, if_neg (fun h => h.1 hzy), ← HC.out]; rfl)
        have e1 : ((z.1 : Int) != (y.1 : Int)) = false := by rw [bne_eq_false_iff_eq]; omega
        clear hzy
        gi_wp2_with (refine ⟨trivial, ?_⟩)
        exact FIN.out _ (by rw [HE.out]; exact HA4.out) (Turned.refl _ _)
      · have e1 : ((z.1 : Int) != (y.1 : Int)) = true := by rw [bne_iff_ne]; omega
        cases hem : bkEmpty z.2 with
        | true =>
          have HE : Hid (cntE y.1 ((usL x).take (i + 1)) = c + 1) := Lib.hid (by rw [HB1.out, cntE_snoc, if_pos ⟨hzy, hem⟩, ← HC.out])
          rw [hem] at SE
          clear hzy hem
          gi_wp2_with (first
            | (refine wpListIn_ldr_g _ (by rfl) rfl rfl Tryz.underlying147 rfl bk_size HYL.out HYA.out.rng ?_)
            | (refine ⟨trivial, ?_⟩; gi_at_call 154; refine (CallsIn.inRound l2 (callsIn_wide.2 (SE.out X2))).mono ?_; rintro e X3 ⟨rfl, hb3⟩; have HB3 := Lib.hid hb3; have h3 := HA4.out.kept (Turned.of_below hb3 (Nat.le_refl _) NoBlock) (fun h => h); have H3 := Lib.hid h3; have c5 := h3.cell 0; have f5 := h3.frozen 0; simp only [List.getElem?_cons_zero] at c5; clear hb3 h3))
          exact FIN.out _ (by rw [HE.out, Int.natCast_add]; exact H3.out.put 0 (.int .i64 ((c : Int) + 1))) ((Turned.of_below HB3.out (Nat.le_refl _) (Just (w1.heap.size + 1))).setCell (p := ⟨w1.heap.size + 1, 0, none⟩) (fun _ => rfl) _)
        | false =>
          have HE : Hid (cntE y.1 ((usL x).take (i + 1)) = c) := Lib.hid (by rw [HB1.out, cntE_snoc, if_neg (fun h => by rw [hem] at h; cases h.2), ← HC.out]; rfl)
          rw [hem] at SE
          clear hzy hem
          gi_wp2_with (first
            | (refine wpListIn_ldr_g _ (by rfl) rfl rfl Tryz.underlying147 rfl bk_size HYL.out HYA.out.rng ?_)
            | (refine ⟨trivial, ?_⟩; gi_at_call 154; refine (CallsIn.inRound l2 (callsIn_wide.2 (SE.out X2))).mono ?_; rintro e X3 ⟨rfl, hb3⟩; have HB3 := Lib.hid hb3; clear hb3))
          exact FIN.out _ (by rw [HE.out]; exact HA4.out.kept (Turned.of_below HB3.out (Nat.le_refl _) NoBlock) (fun h => h)) (Turned.of_below HB3.out (Nat.le_refl _) _)
    case dn =>
      rintro X hS hK
      rw [List.take_length] at hS
      have HS := Lib.hid hS
      have HKD := Lib.hid hK
      clear hS hK
      gi_wp2_with fail
      obtain ⟨c, hc⟩ : ∃ c, c = cntE y.1 (usL x) := ⟨_, rfl⟩
      rw [← hc] at HS
      have HBX : Hid (Below w.heap.size w X) := Lib.hid (((Turned.of_below HVB.out (Nat.le_refl _) NoBlock).after HS.out.2 (fun i hi h => by unfold Just at h; have := HB.out.size; omega)).below (fun k hk => hk.elim) (Nat.le_refl _))
      have HRR : Hid (roomyM x = decide (spareM x.ret ≤ (c : Int))) := Lib.hid (by rw [HR.out, hc]; rfl)
      have SPR := Lib.hid (fun W (hb : Below w.heap.size w W) => (HH.out.below hb).spare)
      have c4 := HS.out.1.cell 0
      simp only [List.getElem?_cons_zero] at c4
      clear hc
      refine wpIn_wide.2 ?_
      go_region_held3 (fun W => W.cell? ⟨w1.heap.size + 1, 0, none⟩ = some (.int .i64 (c : Int))) (first | assumption | exact c4) (first
        | (go_at_call 155; (refine (SPR.out _ (by first | exact HBX.out | exact HBX.out.drew)).mono ?_); rintro e w9 ⟨rfl, rfl⟩))
      gi_wp2_with fail
      refine post_mark HKD.out (results_tmp rfl _ _ _) ⟨by rw [HRR.out]; rfl, below_mark HBX.out.drew (by have := HVS.out; have := HB.out.size; omega) HKD.out⟩
    case st =>
      rintro co i X hi h hK
      exact h.elim
end
end Go.Proofs.YtpkkejdjhnmjiaaGreat
namespace Go.Proofs.YtpkkejdjhnmjiaaGreat
open Go.RowKit Bm Go.Shelf
attribute [local go_sem] Oper.semAt_some
theorem op_go_g {P : Program} {ops : Array Oper} {Q : Exit → Go.Act → World → Prop} {K : Go.Act → World → Prop} {a : Go.Act} {w : World} {o : Oper} {i : Nat} (hi : ops[i]? = some o) (hw : Region.wanted o (yielded ops a.tmps) = true) (h : o.wp P a w K Q) : wpOp P ops Q i K a w := by
  unfold wpOp
  rw [hi]
  simp only [hw, if_true]
  exact .inl h
theorem y_undef (f : Bool → Option Bool) (g : Option Value → Option Bool) : Go.yielded.match_1 (fun _ => Option Bool) (some undef) f g = g (some undef) := rfl
attribute [local go_sem] y_undef
section
variable {P : Program} {ops : Array Oper} {Q : Exit → Go.Act → World → Prop} {md : Region.Mode} {S : World → Prop}
theorem wT (i : Nat) (v : Value) {oi : Oper} {fuel : Nat} {listed : Array Bool} {a : Go.Act} {w : World} (hi : ops[i]? = some oi)
    (h : wpAnyH P md ops Q S fuel (listed.setIfInBounds i true) (a.put oi.dst v) w)
    (hs : Region.noSelect ops = true := by kernel_rfl) (hf : Region.free md ops listed i = true := by kernel_rfl) (hr : (Region.ready md ops listed).contains i = true := by kernel_rfl)
    (hQ : ∀ c a w, Q (.panic c) (a.put oi.dst v) w → Q (.panic c) a w := by exact fun _ _ _ h => h)
    (h1 : Region.wanted oi (yielded ops a.tmps) = true := by rfl)
    (h2 : ∀ w, S w → (execOp a.eval oi).run P w = .ok (.value v) w := by intro w hS; obtain ⟨s1, s2, s3, s4, s5, s6⟩ := hS; first | (go_simp; done) | (go_simp; omega))
    (hS : S w := by assumption) : wpAnyH P md ops Q S (fuel + 1) listed a w := wpAnyH_take hi hs hf hr hQ (.inl ⟨h1, h2⟩) hS h
theorem wU (i : Nat) {oi : Oper} {fuel : Nat} {listed : Array Bool} {a : Go.Act} {w : World} (hi : ops[i]? = some oi)
    (h : wpAnyH P md ops Q S fuel (listed.setIfInBounds i true) (a.put oi.dst undef) w)
    (hs : Region.noSelect ops = true := by kernel_rfl) (hf : Region.free md ops listed i = true := by kernel_rfl) (hr : (Region.ready md ops listed).contains i = true := by kernel_rfl)
    (hQ : ∀ c a w, Q (.panic c) (a.put oi.dst undef) w → Q (.panic c) a w := by exact fun _ _ _ h => h)
    (h1 : Region.wanted oi (yielded ops a.tmps) = false := by rfl)
    (hS : S w := by assumption) : wpAnyH P md ops Q S (fuel + 1) listed a w := wpAnyH_take hi hs hf hr hQ (.inr ⟨h1, rfl⟩) hS h
end
def chStep (x : StoM) (f : Nat → List PageM) (st : Nat × Bool) (y : Nat × BlkM) : Nat × Bool :=
  if 0 < 8 - (frIn y.2 : Int) - ((f y.1).length : Int) ∧ fitsM x y.1 (f y.1) = true ∧ (st.2 = false ∨ (f y.1).length < (f st.1).length) then (y.1, true) else st
def chFold (x : StoM) (f : Nat → List PageM) (l : List (Nat × BlkM)) : Nat × Bool := l.foldl (chStep x f) (0, false)
def cheapM (x : StoM) (f : Nat → List PageM) : Nat × Bool := chFold x f (usL x)
theorem chFold_snoc (x : StoM) (f : Nat → List PageM) (l : List (Nat × BlkM)) (y : Nat × BlkM) : chFold x f (l ++ [y]) = chStep x f (chFold x f l) y := by simp [chFold]
theorem chFold_lt (x : StoM) (f : Nat → List PageM) {k : Nat} : ∀ (l : List (Nat × BlkM)) (st : Nat × Bool), st.1 < k → (∀ y ∈ l, y.1 < k) → (l.foldl (chStep x f) st).1 < k
  | [], _, h, _ => h
  | y :: l, st, h, hl => by
    rw [List.foldl_cons]
    refine chFold_lt x f l _ ?_ (fun z hz => hl z (List.mem_cons_of_mem _ hz))
    unfold chStep
    split
    · exact hl y List.mem_cons_self
    · exact h
theorem len_pages (A : Option Addr) (n cap : Nat) (W : World) : (Builtin.len_ #[203] 3 #[Value.slice A n cap]).run Tryz.prog W = .ok (.int .i64 n) W := by
  cases A <;> simp [Builtin.len_, go_sem]
theorem own_reads {w : World} {B : Nat} {v : Value} {ms : List PageM} (h : w.ownsRow B 73 7 v ms.length (pgs ms)) : ∃ A cap, v = .slice A ms.length cap ∧ ReadsM w A ms.length cap ms := by
  obtain ⟨hl, ⟨rfl, h0⟩ | ⟨g, cap, cur, rfl, hb, hg, hn, hm, hs, ht⟩⟩ := h
  · obtain rfl := List.eq_nil_of_length_eq_zero h0
    exact ⟨none, 0, rfl, ReadsM.none w⟩
  · refine ⟨_, cap, rfl, rfl, hn, hm, fun _ => ⟨g, 0, rfl, (Array.getElem?_eq_some_iff.1 hg).1, fun j p hj => ?_⟩⟩
    have hA : At w g 73 (pgs ms ++ cur.toList.drop (ms.length * 7)) := by
      rw [← ht, List.take_append_drop]
      unfold At
      simpa using hg
    obtain ⟨hjl, e⟩ := List.getElem?_eq_some_iff.1 hj
    have e2 : pgN ms j = p := by rw [pgN_get hjl] at hj; exact Option.some.inj hj
    rw [pgs_split ms j hjl, e2, List.append_assoc, List.append_assoc] at hA
    have := hA.range
    rw [pgs_len, List.length_take, Nat.min_eq_left (by omega)] at this
    rw [Nat.zero_add, Nat.mul_comm]
    exact this
section
variable {B p f q s k g : Nat} {K : Nat → Prop} {d : DrvM} {x : StoM} {w w' : World}
set_option maxRecDepth 100000 in
set_option maxHeartbeats 4000000 in
theorem Sto.cheapest (h : Sto B p f q s k g K d x w) (hk : k ≤ 19) (k3 : 3 ≤ k) {B' gm : Nat} {F : Nat → List PageM} {vs : List Value} (hM : RowMV B' gm k F vs w) (hF : ∀ b, (F b).length ≤ 100000) :
    Calls Tryz.prog 151 #[.pointer (some ⟨s, 0, none⟩), .slice (some ⟨gm, 0, none⟩) k k] w fun e w' => e = .returned (.tuple #[.int .i64 ((cheapM x F).1 : Int), .bool (cheapM x F).2]) ∧ Below w.heap.size w w' := by
  have hzb := bk_zero
  have HH := Lib.hid h
  have HM := Lib.hid hM
  have HF := Lib.hid hF
  have hss := h.own.lt
  have hgg := h.row.lt
  have HLN := Lib.hid h.len
  clear h hM hF
  refine (callsIn_wide (n := 10)).1 ?_
  refine callsIn_of_wp_marks Tryz.func151 rfl trivial ?_
  simp only [Tryz.ntmps151, List.size_toArray, List.length_cons, List.length_nil, Nat.reduceAdd, Nat.reduceSub, Array.replicate_succ, Array.replicate_zero, List.push_toArray, List.append_toArray, List.nil_append, List.cons_append]
  gi_wp2_with (refine ⟨trivial, ?_⟩; gi_at_call 153; refine (callsIn_wide.2 (usable_of _ _)).mono ?_; rintro e w' ⟨rfl, rfl⟩)
  obtain ⟨V, hV⟩ : ∃ V, ((((w.alloc (.cells #[.pointer (some ⟨s, 0, none⟩)] 30)).alloc (.cells #[.slice (some ⟨gm, 0, none⟩) k k] 204)).alloc (.cells #[.int .i64 0] 3)).alloc (.cells #[.bool false] 4)).alloc (.cells #[.pointer (some ⟨s, 0, none⟩)] 30) = V := ⟨_, rfl⟩
  have vs' : V.heap.size = w.heap.size + 5 := by rw [← hV]; simp
  have v2 : At V w.heap.size 30 [.pointer (some ⟨s, 0, none⟩)] := by rw [← hV]; exact ((((At.news w _ _).alloc _).alloc _).alloc _).alloc _
  have v3 : At V (w.heap.size + 1) 204 [.slice (some ⟨gm, 0, none⟩) k k] := by rw [← hV]; exact (((At.alloc_new _ _ _ (by simp) rfl).alloc _).alloc _).alloc _
  have v6 : At V (w.heap.size + 1 + 1) 3 [.int .i64 0] := by rw [← hV]; exact ((At.alloc_new _ _ _ (by simp) rfl).alloc _).alloc _
  have v7 : At V (w.heap.size + 1 + 1 + 1) 4 [.bool false] := by rw [← hV]; exact (At.alloc_new _ _ _ (by simp) rfl).alloc _
  have vN : At V (w.heap.size + 1 + 1 + 1 + 1) 30 [.pointer (some ⟨s, 0, none⟩)] := by rw [← hV]; exact At.alloc_new _ _ _ (by simp) rfl
  have vb : Below w.heap.size w V := by rw [← hV]; exact ((((below_two w _ _).alloc (by simp; omega) _).alloc (by simp; omega) _).alloc (by simp; omega) _)
  rw [hV]
  clear hV
  obtain ⟨N, hN⟩ : ∃ N, N = w.heap.size + 1 + 1 + 1 + 1 := ⟨_, rfl⟩
  rw [← hN] at vN ⊢
  obtain ⟨c7, h7⟩ : ∃ c7, c7 = w.heap.size + 1 + 1 + 1 := ⟨_, rfl⟩
  rw [← h7] at v7 hN ⊢
  obtain ⟨c6, h6⟩ : ∃ c6, c6 = w.heap.size + 1 + 1 := ⟨_, rfl⟩
  rw [← h6] at v6 h7 ⊢
  obtain ⟨c3, h3⟩ : ∃ c3, c3 = w.heap.size + 1 := ⟨_, rfl⟩
  rw [← h3] at v3 h6 ⊢
  have HNUM : Hid (c3 = w.heap.size + 1 ∧ c6 = w.heap.size + 2 ∧ c7 = w.heap.size + 3 ∧ N = w.heap.size + 4 ∧ V.heap.size = w.heap.size + 5) := Lib.hid ⟨by omega, by omega, by omega, by omega, by omega⟩
  clear hN h7 h6 h3 vs'
  have HV2 := Lib.hid v2
  have HV3 := Lib.hid v3
  have HVB := Lib.hid vb
  have HMV := Lib.hid (HM.out.below vb)
  have hU := HH.out.us hk (N := N) vb vN
  have I0 : (At V c6 3 [.int .i64 ((chFold x F ((usL x).take 0)).1 : Int)] ∧ At V c7 4 [.bool (chFold x F ((usL x).take 0)).2]) ∧ Turned (fun r => r = c6 ∨ r = c7) V V := ⟨⟨v6, v7⟩, Turned.refl _ _⟩
  have hO : OwnFrom V.heap.size (fun (i : Nat) X => (At X c6 3 [.int .i64 ((chFold x F ((usL x).take i)).1 : Int)] ∧ At X c7 4 [.bool (chFold x F ((usL x).take i)).2]) ∧ Turned (fun r => r = c6 ∨ r = c7) V X) := OwnFrom.and (OwnFrom.and (At.own_from (f := fun i => [.int .i64 ((chFold x F ((usL x).take i)).1 : Int)])) (At.own_from (f := fun i => [.bool (chFold x F ((usL x).take i)).2]))) (Turned.own (Nat.le_refl _))
  have HO := Lib.hid hO
  clear v2 v3 v6 v7 vN vb
  refine range_outer (gf := 159) (lb := #[.pointer (some ⟨N, 0, none⟩)]) (encs := usE) (Kp := KpU V.heap.size (Kb3 N s g)) (xs := usL x) (w0 := V) (m := 8)
    (I := fun (i : Nat) X => (At X c6 3 [.int .i64 ((chFold x F ((usL x).take i)).1 : Int)] ∧ At X c7 4 [.bool (chFold x F ((usL x).take i)).2]) ∧ Turned (fun r => r = c6 ∨ r = c7) V X)
    (Ix := fun _ _ _ => False)
    rfl (enters_of Tryz.func159 (by kernel_rfl) rfl) (us_seq _ (.inl rfl) (.inr (.inl rfl)) (.inr (.inr rfl)) hU) (Below.refl _ _) KpU.trans (fun W l o o' _ h1 h2 _ => KpU.put W l o o' h1 h2) (fun _ => rfl)
    hO (fun _ _ _ _ _ hs _ _ => hs) I0 ?rnd ?dn ?st
  case rnd =>
    rintro l2 i y X hl2 ⟨rr, hrr⟩ hS hx
    have hyx : y ∈ usL x := List.mem_of_getElem? hx
    have HLT : Hid (∀ z ∈ usL x, z.1 < k) := Lib.hid (fun z hz => by
      obtain ⟨b, hb, e⟩ := List.mem_map.1 hz
      rw [← e]
      have := (mem_ordN.1 hb).1
      rw [HLN.out] at this
      exact this)
    have HOK : Hid (BlkOk y.2) := Lib.hid (by
      obtain ⟨b, hb, e⟩ := List.mem_map.1 hyx
      rw [← e]
      exact HH.out.ok _ (List.mem_of_getElem? (bkN_get (mem_ordN.1 hb).1)))
    have HB1 : Hid ((usL x).take (i + 1) = (usL x).take i ++ [y]) := Lib.hid (by rw [List.take_add_one, hx]; rfl)
    have HYK : Hid (y.1 < k) := Lib.hid (HLT.out y hyx)
    have HBK : Hid ((chFold x F ((usL x).take i)).1 < k) := Lib.hid (chFold_lt x F _ _ (by show 0 < k; omega) (fun z hz => HLT.out z (List.mem_of_mem_take hz)))
    have HYL := Lib.hid (bk_len HOK.out)
    have HS := Lib.hid hS
    clear hx hyx hS hrr
    unfold usE bkV
    gi_wp2_with (refine wpListIn_stm (pre := []) (post := []) (xs := bkC bk0) (ys := bkC y.2) _ _ rfl rfl rfl rfl bk_size (by rfl) HYL.out (bk_one _) rfl (by simp) (At.news X _ (bkC bk0)) ?_; intro X1 A1 T1; rw [List.nil_append, List.append_nil] at A1; have HA1 := Lib.hid A1; have HT1 := Lib.hid T1; clear A1 T1)
    have TX : Turned NoBlock X X1 := ((Turned.refl NoBlock X).alloc _).after HT1.out (fun k hk he => by unfold Just at he; omega)
    have bX : Below X.heap.size X X1 := TX.below (fun k hk => hk.elim) (Nat.le_refl _)
    refine ⟨TX.from _ (fun k hk => hk.elim), KpU.turned TX (fun _ _ _ hk => hk.elim), ownJ_below HO.out HS.out bX, ?_⟩
    intro X2 hmk
    have hs2 := hmk.own HO.out hl2 (ownJ_below HO.out HS.out bX)
    have HS2 := Lib.hid hs2
    have HYA : Hid (At X2 X.heap.size 147 (bkC y.2)) := Lib.hid (hmk.at_ HA1.out)
    obtain ⟨⟨bt, ib⟩, hst⟩ : ∃ st, st = chFold x F ((usL x).take i) := ⟨_, rfl⟩
    have HST := Lib.hid hst
    have hbk := HBK.out
    rw [← hst] at hbk hs2
    have HA6 := Lib.hid hs2.1.1
    have HA7 := Lib.hid hs2.1.2
    have HT2 := Lib.hid hs2.2
    have HNX : Hid (Below w.heap.size w X2) := Lib.hid (((Turned.of_below HVB.out (Nat.le_refl _) NoBlock).after hs2.2 (fun i hi h => by have := HNUM.out; rcases h with h | h <;> omega)).below (fun k hk => hk.elim) (Nat.le_refl _))
    have HM2 := Lib.hid (HM.out.below HNX.out)
    have HSX := Lib.hid (HH.out.below HNX.out)
    obtain ⟨v, hv⟩ : ∃ v, vs[y.1]? = some v := ⟨_, List.getElem?_eq_getElem (by rw [HM.out.len]; exact HYK.out)⟩
    obtain ⟨v', hv'⟩ : ∃ v, vs[bt]? = some v := ⟨_, List.getElem?_eq_getElem (by rw [HM.out.len]; exact hbk)⟩
    obtain ⟨A, cap, rfl, hR⟩ := own_reads (HM2.out.own _ _ hv)
    obtain ⟨A2, cap2, rfl, hR2⟩ := own_reads (HM2.out.own _ _ hv')
    have HRD := Lib.hid hR
    have F2 : Hid (∀ X', Below X2.heap.size X2 X' → X'.cell? ⟨w.heap.size, 0, none⟩ = some (.pointer (some ⟨s, 0, none⟩)) ∧ X'.cell? ⟨c3, 0, none⟩ = some (.slice (some ⟨gm, 0, none⟩) k k) ∧ X'.cell? ⟨gm, y.1, none⟩ = some (.slice A (F y.1).length cap) ∧ X'.cell? ⟨gm, bt, none⟩ = some (.slice A2 (F bt).length cap2) ∧ X'.cell? ⟨c6, 0, none⟩ = some (.int .i64 (bt : Int)) ∧ X'.frozen? ⟨c6, 0, none⟩ = false ∧ X'.cell? ⟨c7, 0, none⟩ = some (.bool ib) ∧ X'.frozen? ⟨c7, 0, none⟩ = false) := Lib.hid (fun X' hb => by
      have N' := Turned.of_below hb (Nat.le_refl _) NoBlock
      have a2 := (HV2.out.kept HT2.out (by have := HNUM.out; omega)).kept N' (fun h => h)
      have a3 := (HV3.out.kept HT2.out (by have := HNUM.out; omega)).kept N' (fun h => h)
      have ag := (HM2.out.below hb).at'
      have a6 := HA6.out.kept N' (fun h => h)
      have a7 := HA7.out.kept N' (fun h => h)
      exact ⟨a2.cell 0, a3.cell 0, by rw [ag.cell, hv], by rw [ag.cell, hv'], a6.cell 0, a6.frozen 0, a7.cell 0, a7.frozen 0⟩)
    have FIN : Hid (∀ Y, (At Y c6 3 [.int .i64 ((chFold x F ((usL x).take (i + 1))).1 : Int)] ∧ At Y c7 4 [.bool (chFold x F ((usL x).take (i + 1))).2]) → Turned (fun r => r = c6 ∨ r = c7) X2 Y → postI V.heap.size (KpU V.heap.size (Kb3 N s g)) (fun (i : Nat) X => (At X c6 3 [.int .i64 ((chFold x F ((usL x).take i)).1 : Int)] ∧ At X c7 4 [.bool (chFold x F ((usL x).take i)).2]) ∧ Turned (fun r => r = c6 ∨ r = c7) V X) (fun _ _ _ => False) i X2 .normal { tmps := #[], defers := [] } Y) := Lib.hid fun Y hY hT =>
      ⟨keeps_cells hT (fun k hk => by
        rcases hk with rfl | rfl
        · exact ⟨_, _, HA6.out⟩
        · exact ⟨_, _, HA7.out⟩) _, KpU.turned hT (fun k t cs hk hA => by
        have := HNUM.out
        rcases hk with rfl | rfl
        · exact ⟨fun h => by rcases h with h | h | h <;> omega, fun h => by omega⟩
        · exact ⟨fun h => by rcases h with h | h | h <;> omega, fun h => by omega⟩), hY, HS2.out.2.trans hT⟩
    have HCS : Hid (chFold x F ((usL x).take (i + 1)) = chStep x F (bt, ib) y) := Lib.hid (by rw [HB1.out, chFold_snoc, ← HST.out])
    have FR := Lib.hid (fun W => freeIn_any y.2 HOK.out W)
    have fr8 := frIn_le y.2
    obtain ⟨fr, hfr⟩ : ∃ fr, fr = frIn y.2 := ⟨_, rfl⟩
    have hn1 := HF.out y.1
    have hn2 := HF.out bt
    have hRL := hR
    obtain ⟨n, hn⟩ : ∃ n, n = (F y.1).length := ⟨_, rfl⟩
    obtain ⟨n2, hnn⟩ : ∃ n2, n2 = (F bt).length := ⟨_, rfl⟩
    rw [← hn] at F2 HRD hn1
    rw [← hnn] at F2 hn2
    rw [← hfr] at fr8 FR
    have FT := Lib.hid (fun W (hb : Below X2.heap.size X2 W) => (HSX.out.below hb).fits y.1 HYK.out (HRD.out.kept hb) hn1)
    have HCV : Hid (chStep x F (bt, ib) y = if 0 < 8 - (fr : Int) - (n : Int) ∧ fitsM x y.1 (F y.1) = true ∧ (ib = false ∨ n < n2) then (y.1, true) else (bt, ib)) := Lib.hid (by unfold chStep; rw [hfr, hn, hnn])
    have yk : (y.1 : Int) < (k : Int) := by have := HYK.out; omega
    have bk' : (bt : Int) < (k : Int) := by omega
    have LEN1 := len_pages A n cap
    have LEN2 := len_pages A2 n2 cap2
    obtain ⟨z1, z2, z3, z4, z5, z6, z7, z8⟩ := F2.out X2 (Below.refl _ _)
    unfold bkV at FR
    clear hst hbk hs2 hv hv' hR hR2 hRL TX bX hmk hfr hn hnn
    gi_wp2_with (first
      | (refine wpListIn_ldr _ rfl rfl rfl Tryz.underlying147 rfl bk_size HYL.out HYA.out.rng ?_)
      | (refine ⟨trivial, ?_⟩; gi_at_call 156; refine (CallsIn.inRound l2 (callsIn_wide.2 (FR.out X2))).mono ?_; rintro e X3 ⟨rfl, hb3⟩; have HB3 := Lib.hid hb3; clear hb3))
    clear z1 z2 z3 z4 z5 z6 z7 z8
    obtain ⟨z1, z2, z3, z4, z5, z6, z7, z8⟩ := F2.out X3 HB3.out
    have END : Hid (∀ Y, Turned NoBlock X2 Y → chStep x F (bt, ib) y = (bt, ib) → postI V.heap.size (KpU V.heap.size (Kb3 N s g)) (fun (i : Nat) X => (At X c6 3 [.int .i64 ((chFold x F ((usL x).take i)).1 : Int)] ∧ At X c7 4 [.bool (chFold x F ((usL x).take i)).2]) ∧ Turned (fun r => r = c6 ∨ r = c7) V X) (fun _ _ _ => False) i X2 .normal { tmps := #[], defers := [] } Y) := Lib.hid fun Y hT hc =>
      FIN.out Y (by rw [HCS.out, hc]; exact ⟨HA6.out.kept hT (fun h => h), HA7.out.kept hT (fun h => h)⟩) (hT.mono fun _ _ h => h.elim)
    by_cases p1 : (0 : Int) < 8 - (fr : Int) - (n : Int)
    · by_cases p2 : fitsM x y.1 (F y.1) = true
      · rw [p2] at FT
        cases ib
        · have HC : Hid (chStep x F (bt, false) y = (y.1, true)) := Lib.hid (by rw [HCV.out, if_pos ⟨p1, p2, .inl rfl⟩])
          refine drawn_in (by kernel_rfl) (fun _ _ h => h) (by kernel_rfl) ?_
          refine wpAny_of_held (S := fun W => W.cell? ⟨w.heap.size, 0, none⟩ = some (.pointer (some ⟨s, 0, none⟩)) ∧ W.cell? ⟨c3, 0, none⟩ = some (.slice (some ⟨gm, 0, none⟩) k k) ∧ W.cell? ⟨gm, y.1, none⟩ = some (.slice A n cap) ∧ W.cell? ⟨gm, bt, none⟩ = some (.slice A2 n2 cap2) ∧ W.cell? ⟨c6, 0, none⟩ = some (.int .i64 (bt : Int)) ∧ W.cell? ⟨c7, 0, none⟩ = some (.bool false)) _ _ _ _ ?_
          have SZ : Hid (∀ W, Below X2.heap.size X2 W → (fun W => W.cell? ⟨w.heap.size, 0, none⟩ = some (.pointer (some ⟨s, 0, none⟩)) ∧ W.cell? ⟨c3, 0, none⟩ = some (.slice (some ⟨gm, 0, none⟩) k k) ∧ W.cell? ⟨gm, y.1, none⟩ = some (.slice A n cap) ∧ W.cell? ⟨gm, bt, none⟩ = some (.slice A2 n2 cap2) ∧ W.cell? ⟨c6, 0, none⟩ = some (.int .i64 (bt : Int)) ∧ W.cell? ⟨c7, 0, none⟩ = some (.bool false)) W) := Lib.hid (fun W hb => by obtain ⟨u1, u2, u3, u4, u5, u6, u7, u8⟩ := F2.out W hb; exact ⟨u1, u2, u3, u4, u5, u7⟩)
          have SX3 : (fun W => W.cell? ⟨w.heap.size, 0, none⟩ = some (.pointer (some ⟨s, 0, none⟩)) ∧ W.cell? ⟨c3, 0, none⟩ = some (.slice (some ⟨gm, 0, none⟩) k k) ∧ W.cell? ⟨gm, y.1, none⟩ = some (.slice A n cap) ∧ W.cell? ⟨gm, bt, none⟩ = some (.slice A2 n2 cap2) ∧ W.cell? ⟨c6, 0, none⟩ = some (.int .i64 (bt : Int)) ∧ W.cell? ⟨c7, 0, none⟩ = some (.bool false)) X3.drew := SZ.out X3 HB3.out
          dsimp only at SX3
          refine wT 0 (.int .i64 (8 - (fr : Int) - (n : Int))) rfl ?_; simp only [List.getElem_toArray, List.getElem_cons_zero, Act.put, List.setIfInBounds_toArray, List.set_cons_zero, List.set_cons_succ]
          refine wT 1 (.bool true) rfl ?_; simp only [List.getElem_toArray, List.getElem_cons_zero, List.getElem_cons_succ, Act.put, List.setIfInBounds_toArray, List.set_cons_zero, List.set_cons_succ]
          refine wT 2 (.bool true) rfl ?_; simp only [List.getElem_toArray, List.getElem_cons_zero, List.getElem_cons_succ, Act.put, List.setIfInBounds_toArray, List.set_cons_zero, List.set_cons_succ]
          refine wT 3 (.pointer (some ⟨s, 0, none⟩)) rfl ?_; simp only [List.getElem_toArray, List.getElem_cons_zero, List.getElem_cons_succ, Act.put, List.setIfInBounds_toArray, List.set_cons_zero, List.set_cons_succ]
          refine wT 4 (.int .i64 (y.1 : Int)) rfl ?_; simp only [List.getElem_toArray, List.getElem_cons_zero, List.getElem_cons_succ, Act.put, List.setIfInBounds_toArray, List.set_cons_zero, List.set_cons_succ]
          refine wT 5 (.slice (some ⟨gm, 0, none⟩) k k) rfl ?_; simp only [List.getElem_toArray, List.getElem_cons_zero, List.getElem_cons_succ, Act.put, List.setIfInBounds_toArray, List.set_cons_zero, List.set_cons_succ]
          refine wT 6 (.int .i64 (y.1 : Int)) rfl ?_; simp only [List.getElem_toArray, List.getElem_cons_zero, List.getElem_cons_succ, Act.put, List.setIfInBounds_toArray, List.set_cons_zero, List.set_cons_succ]
          refine wT 7 (.pointer (some ⟨gm, y.1, none⟩)) rfl ?_; simp only [List.getElem_toArray, List.getElem_cons_zero, List.getElem_cons_succ, Act.put, List.setIfInBounds_toArray, List.set_cons_zero, List.set_cons_succ]
          refine wT 8 (.slice A n cap) rfl ?_; simp only [List.getElem_toArray, List.getElem_cons_zero, List.getElem_cons_succ, Act.put, List.setIfInBounds_toArray, List.set_cons_zero, List.set_cons_succ]
          refine wpAnyH_all (rs := [9]) (by kernel_rfl) (by simp) ?_
          intro i9 hi9
          obtain rfl : i9 = 9 := by simpa using hi9
          refine op_go_g rfl (by rfl) ?_
          go_simp
          refine (FT.out _ HB3.out.drew).mono ?_
          rintro e X4 ⟨rfl, hb4⟩
          have HB4 := Lib.hid (HB3.out.drew.trans (hb4.mono HB3.out.size))
          dsimp only
          have SX4 := SZ.out X4 HB4.out
          refine ⟨SX4, ?_⟩
          refine wT 10 (.bool true) rfl ?_; simp only [List.getElem_toArray, List.getElem_cons_zero, List.getElem_cons_succ, Act.put, List.setIfInBounds_toArray, List.set_cons_zero, List.set_cons_succ]
          refine wT 11 (.bool true) rfl ?_; simp only [List.getElem_toArray, List.getElem_cons_zero, List.getElem_cons_succ, Act.put, List.setIfInBounds_toArray, List.set_cons_zero, List.set_cons_succ]
          refine wT 12 (.bool false) rfl ?_; simp only [List.getElem_toArray, List.getElem_cons_zero, List.getElem_cons_succ, Act.put, List.setIfInBounds_toArray, List.set_cons_zero, List.set_cons_succ]
          refine wT 13 (.bool true) rfl ?_; simp only [List.getElem_toArray, List.getElem_cons_zero, List.getElem_cons_succ, Act.put, List.setIfInBounds_toArray, List.set_cons_zero, List.set_cons_succ]
          refine wT 14 (.bool true) rfl ?_; simp only [List.getElem_toArray, List.getElem_cons_zero, List.getElem_cons_succ, Act.put, List.setIfInBounds_toArray, List.set_cons_zero, List.set_cons_succ]
          refine wU 15 rfl ?_; simp only [List.getElem_toArray, List.getElem_cons_zero, List.getElem_cons_succ, Act.put, List.setIfInBounds_toArray, List.set_cons_zero, List.set_cons_succ]
          refine wU 16 rfl ?_; simp only [List.getElem_toArray, List.getElem_cons_zero, List.getElem_cons_succ, Act.put, List.setIfInBounds_toArray, List.set_cons_zero, List.set_cons_succ]
          refine wU 17 rfl ?_; simp only [List.getElem_toArray, List.getElem_cons_zero, List.getElem_cons_succ, Act.put, List.setIfInBounds_toArray, List.set_cons_zero, List.set_cons_succ]
          refine wU 18 rfl ?_; simp only [List.getElem_toArray, List.getElem_cons_zero, List.getElem_cons_succ, Act.put, List.setIfInBounds_toArray, List.set_cons_zero, List.set_cons_succ]
          refine wU 19 rfl ?_; simp only [List.getElem_toArray, List.getElem_cons_zero, List.getElem_cons_succ, Act.put, List.setIfInBounds_toArray, List.set_cons_zero, List.set_cons_succ]
          refine wU 20 rfl ?_; simp only [List.getElem_toArray, List.getElem_cons_zero, List.getElem_cons_succ, Act.put, List.setIfInBounds_toArray, List.set_cons_zero, List.set_cons_succ]
          refine wU 21 rfl ?_; simp only [List.getElem_toArray, List.getElem_cons_zero, List.getElem_cons_succ, Act.put, List.setIfInBounds_toArray, List.set_cons_zero, List.set_cons_succ]
          refine wT 22 (.bool true) rfl ?_; simp only [List.getElem_toArray, List.getElem_cons_zero, List.getElem_cons_succ, Act.put, List.setIfInBounds_toArray, List.set_cons_zero, List.set_cons_succ]
          refine wT 23 (.bool true) rfl ?_; simp only [List.getElem_toArray, List.getElem_cons_zero, List.getElem_cons_succ, Act.put, List.setIfInBounds_toArray, List.set_cons_zero, List.set_cons_succ]
          refine wpAnyH_done (by kernel_rfl) ?_ _
          obtain ⟨t1, t2, t3, t4, t5, t6, t7, t8⟩ := F2.out X4 HB4.out
          have a6 := Lib.hid (HA6.out.kept (Turned.of_below HB4.out (Nat.le_refl _) NoBlock) (fun h => h))
          have a7 := Lib.hid (HA7.out.kept (Turned.of_below HB4.out (Nat.le_refl _) NoBlock) (fun h => h))
          have n67 : Hid (c7 ≠ c6 ∧ c6 ≠ c7) := Lib.hid (by have := HNUM.out; omega)
          have t9 : ∀ u, (X4.setCell ⟨c6, 0, none⟩ u).cell? ⟨c7, 0, none⟩ = some (.bool false) := fun u => (a7.out.far n67.out.1 u).cell 0
          have t10 : ∀ u, (X4.setCell ⟨c6, 0, none⟩ u).frozen? ⟨c7, 0, none⟩ = false := fun u => (a7.out.far n67.out.1 u).frozen 0
          gi_wp2_with fail
          exact FIN.out _ (by rw [HCS.out, HC.out]; exact ⟨(a6.out.put 0 (.int .i64 (y.1 : Int))).far n67.out.2 _, (a7.out.far n67.out.1 _).put 0 (.bool true)⟩) (((Turned.of_below HB4.out (Nat.le_refl _) (fun r => r = c6 ∨ r = c7)).setCell (p := ⟨c6, 0, none⟩) (fun _ => .inl rfl) _).setCell (p := ⟨c7, 0, none⟩) (fun _ => .inr rfl) _)
        · by_cases p4 : n < n2
          · have HC : Hid (chStep x F (bt, true) y = (y.1, true)) := Lib.hid (by rw [HCV.out, if_pos ⟨p1, p2, .inr p4⟩])
            have p5 : (n : Int) < (n2 : Int) := by omega
            refine drawn_in (by kernel_rfl) (fun _ _ h => h) (by kernel_rfl) ?_
            refine wpAny_of_held (S := fun W => W.cell? ⟨w.heap.size, 0, none⟩ = some (.pointer (some ⟨s, 0, none⟩)) ∧ W.cell? ⟨c3, 0, none⟩ = some (.slice (some ⟨gm, 0, none⟩) k k) ∧ W.cell? ⟨gm, y.1, none⟩ = some (.slice A n cap) ∧ W.cell? ⟨gm, bt, none⟩ = some (.slice A2 n2 cap2) ∧ W.cell? ⟨c6, 0, none⟩ = some (.int .i64 (bt : Int)) ∧ W.cell? ⟨c7, 0, none⟩ = some (.bool true)) _ _ _ _ ?_
            have SZ : Hid (∀ W, Below X2.heap.size X2 W → (fun W => W.cell? ⟨w.heap.size, 0, none⟩ = some (.pointer (some ⟨s, 0, none⟩)) ∧ W.cell? ⟨c3, 0, none⟩ = some (.slice (some ⟨gm, 0, none⟩) k k) ∧ W.cell? ⟨gm, y.1, none⟩ = some (.slice A n cap) ∧ W.cell? ⟨gm, bt, none⟩ = some (.slice A2 n2 cap2) ∧ W.cell? ⟨c6, 0, none⟩ = some (.int .i64 (bt : Int)) ∧ W.cell? ⟨c7, 0, none⟩ = some (.bool true)) W) := Lib.hid (fun W hb => by obtain ⟨u1, u2, u3, u4, u5, u6, u7, u8⟩ := F2.out W hb; exact ⟨u1, u2, u3, u4, u5, u7⟩)
            have SX3 : (fun W => W.cell? ⟨w.heap.size, 0, none⟩ = some (.pointer (some ⟨s, 0, none⟩)) ∧ W.cell? ⟨c3, 0, none⟩ = some (.slice (some ⟨gm, 0, none⟩) k k) ∧ W.cell? ⟨gm, y.1, none⟩ = some (.slice A n cap) ∧ W.cell? ⟨gm, bt, none⟩ = some (.slice A2 n2 cap2) ∧ W.cell? ⟨c6, 0, none⟩ = some (.int .i64 (bt : Int)) ∧ W.cell? ⟨c7, 0, none⟩ = some (.bool true)) X3.drew := SZ.out X3 HB3.out
            dsimp only at SX3
            refine wT 0 (.int .i64 (8 - (fr : Int) - (n : Int))) rfl ?_; simp only [List.getElem_toArray, List.getElem_cons_zero, Act.put, List.setIfInBounds_toArray, List.set_cons_zero, List.set_cons_succ]
            refine wT 1 (.bool true) rfl ?_; simp only [List.getElem_toArray, List.getElem_cons_zero, List.getElem_cons_succ, Act.put, List.setIfInBounds_toArray, List.set_cons_zero, List.set_cons_succ]
            refine wT 2 (.bool true) rfl ?_; simp only [List.getElem_toArray, List.getElem_cons_zero, List.getElem_cons_succ, Act.put, List.setIfInBounds_toArray, List.set_cons_zero, List.set_cons_succ]
            refine wT 3 (.pointer (some ⟨s, 0, none⟩)) rfl ?_; simp only [List.getElem_toArray, List.getElem_cons_zero, List.getElem_cons_succ, Act.put, List.setIfInBounds_toArray, List.set_cons_zero, List.set_cons_succ]
            refine wT 4 (.int .i64 (y.1 : Int)) rfl ?_; simp only [List.getElem_toArray, List.getElem_cons_zero, List.getElem_cons_succ, Act.put, List.setIfInBounds_toArray, List.set_cons_zero, List.set_cons_succ]
            refine wT 5 (.slice (some ⟨gm, 0, none⟩) k k) rfl ?_; simp only [List.getElem_toArray, List.getElem_cons_zero, List.getElem_cons_succ, Act.put, List.setIfInBounds_toArray, List.set_cons_zero, List.set_cons_succ]
            refine wT 6 (.int .i64 (y.1 : Int)) rfl ?_; simp only [List.getElem_toArray, List.getElem_cons_zero, List.getElem_cons_succ, Act.put, List.setIfInBounds_toArray, List.set_cons_zero, List.set_cons_succ]
            refine wT 7 (.pointer (some ⟨gm, y.1, none⟩)) rfl ?_; simp only [List.getElem_toArray, List.getElem_cons_zero, List.getElem_cons_succ, Act.put, List.setIfInBounds_toArray, List.set_cons_zero, List.set_cons_succ]
            refine wT 8 (.slice A n cap) rfl ?_; simp only [List.getElem_toArray, List.getElem_cons_zero, List.getElem_cons_succ, Act.put, List.setIfInBounds_toArray, List.set_cons_zero, List.set_cons_succ]
            refine wpAnyH_all (rs := [9]) (by kernel_rfl) (by simp) ?_
            intro i9 hi9
            obtain rfl : i9 = 9 := by simpa using hi9
            refine op_go_g rfl (by rfl) ?_
            go_simp
            refine (FT.out _ HB3.out.drew).mono ?_
            rintro e X4 ⟨rfl, hb4⟩
            have HB4 := Lib.hid (HB3.out.drew.trans (hb4.mono HB3.out.size))
            dsimp only
            have SX4 := SZ.out X4 HB4.out
            refine ⟨SX4, ?_⟩
            refine wT 10 (.bool true) rfl ?_; simp only [List.getElem_toArray, List.getElem_cons_zero, List.getElem_cons_succ, Act.put, List.setIfInBounds_toArray, List.set_cons_zero, List.set_cons_succ]
            refine wT 11 (.bool true) rfl ?_; simp only [List.getElem_toArray, List.getElem_cons_zero, List.getElem_cons_succ, Act.put, List.setIfInBounds_toArray, List.set_cons_zero, List.set_cons_succ]
            refine wT 12 (.bool true) rfl ?_; simp only [List.getElem_toArray, List.getElem_cons_zero, List.getElem_cons_succ, Act.put, List.setIfInBounds_toArray, List.set_cons_zero, List.set_cons_succ]
            refine wT 13 (.bool false) rfl ?_; simp only [List.getElem_toArray, List.getElem_cons_zero, List.getElem_cons_succ, Act.put, List.setIfInBounds_toArray, List.set_cons_zero, List.set_cons_succ]
            refine wT 14 (.bool false) rfl ?_; simp only [List.getElem_toArray, List.getElem_cons_zero, List.getElem_cons_succ, Act.put, List.setIfInBounds_toArray, List.set_cons_zero, List.set_cons_succ]
            refine wT 15 (.int .i64 (n : Int)) rfl ?_; simp only [List.getElem_toArray, List.getElem_cons_zero, List.getElem_cons_succ, Act.put, List.setIfInBounds_toArray, List.set_cons_zero, List.set_cons_succ]
            refine wT 16 (.slice (some ⟨gm, 0, none⟩) k k) rfl ?_; simp only [List.getElem_toArray, List.getElem_cons_zero, List.getElem_cons_succ, Act.put, List.setIfInBounds_toArray, List.set_cons_zero, List.set_cons_succ]
            refine wT 17 (.int .i64 (bt : Int)) rfl ?_; simp only [List.getElem_toArray, List.getElem_cons_zero, List.getElem_cons_succ, Act.put, List.setIfInBounds_toArray, List.set_cons_zero, List.set_cons_succ]
            refine wT 18 (.pointer (some ⟨gm, bt, none⟩)) rfl ?_; simp only [List.getElem_toArray, List.getElem_cons_zero, List.getElem_cons_succ, Act.put, List.setIfInBounds_toArray, List.set_cons_zero, List.set_cons_succ]
            refine wT 19 (.slice A2 n2 cap2) rfl ?_; simp only [List.getElem_toArray, List.getElem_cons_zero, List.getElem_cons_succ, Act.put, List.setIfInBounds_toArray, List.set_cons_zero, List.set_cons_succ]
            refine wT 20 (.int .i64 (n2 : Int)) rfl ?_; simp only [List.getElem_toArray, List.getElem_cons_zero, List.getElem_cons_succ, Act.put, List.setIfInBounds_toArray, List.set_cons_zero, List.set_cons_succ]
            refine wT 21 (.bool true) rfl ?_; simp only [List.getElem_toArray, List.getElem_cons_zero, List.getElem_cons_succ, Act.put, List.setIfInBounds_toArray, List.set_cons_zero, List.set_cons_succ]
            refine wT 22 (.bool true) rfl ?_; simp only [List.getElem_toArray, List.getElem_cons_zero, List.getElem_cons_succ, Act.put, List.setIfInBounds_toArray, List.set_cons_zero, List.set_cons_succ]
            refine wT 23 (.bool true) rfl ?_; simp only [List.getElem_toArray, List.getElem_cons_zero, List.getElem_cons_succ, Act.put, List.setIfInBounds_toArray, List.set_cons_zero, List.set_cons_succ]
            refine wpAnyH_done (by kernel_rfl) ?_ _
            obtain ⟨t1, t2, t3, t4, t5, t6, t7, t8⟩ := F2.out X4 HB4.out
            have a6 := Lib.hid (HA6.out.kept (Turned.of_below HB4.out (Nat.le_refl _) NoBlock) (fun h => h))
            have a7 := Lib.hid (HA7.out.kept (Turned.of_below HB4.out (Nat.le_refl _) NoBlock) (fun h => h))
            have n67 : Hid (c7 ≠ c6 ∧ c6 ≠ c7) := Lib.hid (by have := HNUM.out; omega)
            have t9 : ∀ u, (X4.setCell ⟨c6, 0, none⟩ u).cell? ⟨c7, 0, none⟩ = some (.bool true) := fun u => (a7.out.far n67.out.1 u).cell 0
            have t10 : ∀ u, (X4.setCell ⟨c6, 0, none⟩ u).frozen? ⟨c7, 0, none⟩ = false := fun u => (a7.out.far n67.out.1 u).frozen 0
            gi_wp2_with fail
            exact FIN.out _ (by rw [HCS.out, HC.out]; exact ⟨(a6.out.put 0 (.int .i64 (y.1 : Int))).far n67.out.2 _, (a7.out.far n67.out.1 _).put 0 (.bool true)⟩) (((Turned.of_below HB4.out (Nat.le_refl _) (fun r => r = c6 ∨ r = c7)).setCell (p := ⟨c6, 0, none⟩) (fun _ => .inl rfl) _).setCell (p := ⟨c7, 0, none⟩) (fun _ => .inr rfl) _)
          · have HC : Hid (chStep x F (bt, true) y = (bt, true)) := Lib.hid (by rw [HCV.out, if_neg (fun h => by rcases h.2.2 with h | h; cases h; exact p4 h)])
            have p5 : ¬ (n : Int) < (n2 : Int) := by omega
            refine drawn_in (by kernel_rfl) (fun _ _ h => h) (by kernel_rfl) ?_
            refine wpAny_of_held (S := fun W => W.cell? ⟨w.heap.size, 0, none⟩ = some (.pointer (some ⟨s, 0, none⟩)) ∧ W.cell? ⟨c3, 0, none⟩ = some (.slice (some ⟨gm, 0, none⟩) k k) ∧ W.cell? ⟨gm, y.1, none⟩ = some (.slice A n cap) ∧ W.cell? ⟨gm, bt, none⟩ = some (.slice A2 n2 cap2) ∧ W.cell? ⟨c6, 0, none⟩ = some (.int .i64 (bt : Int)) ∧ W.cell? ⟨c7, 0, none⟩ = some (.bool true)) _ _ _ _ ?_
            have SZ : Hid (∀ W, Below X2.heap.size X2 W → (fun W => W.cell? ⟨w.heap.size, 0, none⟩ = some (.pointer (some ⟨s, 0, none⟩)) ∧ W.cell? ⟨c3, 0, none⟩ = some (.slice (some ⟨gm, 0, none⟩) k k) ∧ W.cell? ⟨gm, y.1, none⟩ = some (.slice A n cap) ∧ W.cell? ⟨gm, bt, none⟩ = some (.slice A2 n2 cap2) ∧ W.cell? ⟨c6, 0, none⟩ = some (.int .i64 (bt : Int)) ∧ W.cell? ⟨c7, 0, none⟩ = some (.bool true)) W) := Lib.hid (fun W hb => by obtain ⟨u1, u2, u3, u4, u5, u6, u7, u8⟩ := F2.out W hb; exact ⟨u1, u2, u3, u4, u5, u7⟩)
            have SX3 : (fun W => W.cell? ⟨w.heap.size, 0, none⟩ = some (.pointer (some ⟨s, 0, none⟩)) ∧ W.cell? ⟨c3, 0, none⟩ = some (.slice (some ⟨gm, 0, none⟩) k k) ∧ W.cell? ⟨gm, y.1, none⟩ = some (.slice A n cap) ∧ W.cell? ⟨gm, bt, none⟩ = some (.slice A2 n2 cap2) ∧ W.cell? ⟨c6, 0, none⟩ = some (.int .i64 (bt : Int)) ∧ W.cell? ⟨c7, 0, none⟩ = some (.bool true)) X3.drew := SZ.out X3 HB3.out
            dsimp only at SX3
            refine wT 0 (.int .i64 (8 - (fr : Int) - (n : Int))) rfl ?_; simp only [List.getElem_toArray, List.getElem_cons_zero, Act.put, List.setIfInBounds_toArray, List.set_cons_zero, List.set_cons_succ]
            refine wT 1 (.bool true) rfl ?_; simp only [List.getElem_toArray, List.getElem_cons_zero, List.getElem_cons_succ, Act.put, List.setIfInBounds_toArray, List.set_cons_zero, List.set_cons_succ]
            refine wT 2 (.bool true) rfl ?_; simp only [List.getElem_toArray, List.getElem_cons_zero, List.getElem_cons_succ, Act.put, List.setIfInBounds_toArray, List.set_cons_zero, List.set_cons_succ]
            refine wT 3 (.pointer (some ⟨s, 0, none⟩)) rfl ?_; simp only [List.getElem_toArray, List.getElem_cons_zero, List.getElem_cons_succ, Act.put, List.setIfInBounds_toArray, List.set_cons_zero, List.set_cons_succ]
            refine wT 4 (.int .i64 (y.1 : Int)) rfl ?_; simp only [List.getElem_toArray, List.getElem_cons_zero, List.getElem_cons_succ, Act.put, List.setIfInBounds_toArray, List.set_cons_zero, List.set_cons_succ]
            refine wT 5 (.slice (some ⟨gm, 0, none⟩) k k) rfl ?_; simp only [List.getElem_toArray, List.getElem_cons_zero, List.getElem_cons_succ, Act.put, List.setIfInBounds_toArray, List.set_cons_zero, List.set_cons_succ]
            refine wT 6 (.int .i64 (y.1 : Int)) rfl ?_; simp only [List.getElem_toArray, List.getElem_cons_zero, List.getElem_cons_succ, Act.put, List.setIfInBounds_toArray, List.set_cons_zero, List.set_cons_succ]
            refine wT 7 (.pointer (some ⟨gm, y.1, none⟩)) rfl ?_; simp only [List.getElem_toArray, List.getElem_cons_zero, List.getElem_cons_succ, Act.put, List.setIfInBounds_toArray, List.set_cons_zero, List.set_cons_succ]
            refine wT 8 (.slice A n cap) rfl ?_; simp only [List.getElem_toArray, List.getElem_cons_zero, List.getElem_cons_succ, Act.put, List.setIfInBounds_toArray, List.set_cons_zero, List.set_cons_succ]
            refine wpAnyH_all (rs := [9]) (by kernel_rfl) (by simp) ?_
            intro i9 hi9
            obtain rfl : i9 = 9 := by simpa using hi9
            refine op_go_g rfl (by rfl) ?_
            go_simp
            refine (FT.out _ HB3.out.drew).mono ?_
            rintro e X4 ⟨rfl, hb4⟩
            have HB4 := Lib.hid (HB3.out.drew.trans (hb4.mono HB3.out.size))
            dsimp only
            have SX4 := SZ.out X4 HB4.out
            refine ⟨SX4, ?_⟩
            refine wT 10 (.bool true) rfl ?_; simp only [List.getElem_toArray, List.getElem_cons_zero, List.getElem_cons_succ, Act.put, List.setIfInBounds_toArray, List.set_cons_zero, List.set_cons_succ]
            refine wT 11 (.bool true) rfl ?_; simp only [List.getElem_toArray, List.getElem_cons_zero, List.getElem_cons_succ, Act.put, List.setIfInBounds_toArray, List.set_cons_zero, List.set_cons_succ]
            refine wT 12 (.bool true) rfl ?_; simp only [List.getElem_toArray, List.getElem_cons_zero, List.getElem_cons_succ, Act.put, List.setIfInBounds_toArray, List.set_cons_zero, List.set_cons_succ]
            refine wT 13 (.bool false) rfl ?_; simp only [List.getElem_toArray, List.getElem_cons_zero, List.getElem_cons_succ, Act.put, List.setIfInBounds_toArray, List.set_cons_zero, List.set_cons_succ]
            refine wT 14 (.bool false) rfl ?_; simp only [List.getElem_toArray, List.getElem_cons_zero, List.getElem_cons_succ, Act.put, List.setIfInBounds_toArray, List.set_cons_zero, List.set_cons_succ]
            refine wT 15 (.int .i64 (n : Int)) rfl ?_; simp only [List.getElem_toArray, List.getElem_cons_zero, List.getElem_cons_succ, Act.put, List.setIfInBounds_toArray, List.set_cons_zero, List.set_cons_succ]
            refine wT 16 (.slice (some ⟨gm, 0, none⟩) k k) rfl ?_; simp only [List.getElem_toArray, List.getElem_cons_zero, List.getElem_cons_succ, Act.put, List.setIfInBounds_toArray, List.set_cons_zero, List.set_cons_succ]
            refine wT 17 (.int .i64 (bt : Int)) rfl ?_; simp only [List.getElem_toArray, List.getElem_cons_zero, List.getElem_cons_succ, Act.put, List.setIfInBounds_toArray, List.set_cons_zero, List.set_cons_succ]
            refine wT 18 (.pointer (some ⟨gm, bt, none⟩)) rfl ?_; simp only [List.getElem_toArray, List.getElem_cons_zero, List.getElem_cons_succ, Act.put, List.setIfInBounds_toArray, List.set_cons_zero, List.set_cons_succ]
            refine wT 19 (.slice A2 n2 cap2) rfl ?_; simp only [List.getElem_toArray, List.getElem_cons_zero, List.getElem_cons_succ, Act.put, List.setIfInBounds_toArray, List.set_cons_zero, List.set_cons_succ]
            refine wT 20 (.int .i64 (n2 : Int)) rfl ?_; simp only [List.getElem_toArray, List.getElem_cons_zero, List.getElem_cons_succ, Act.put, List.setIfInBounds_toArray, List.set_cons_zero, List.set_cons_succ]
            refine wT 21 (.bool false) rfl ?_; simp only [List.getElem_toArray, List.getElem_cons_zero, List.getElem_cons_succ, Act.put, List.setIfInBounds_toArray, List.set_cons_zero, List.set_cons_succ]
            refine wT 22 (.bool false) rfl ?_; simp only [List.getElem_toArray, List.getElem_cons_zero, List.getElem_cons_succ, Act.put, List.setIfInBounds_toArray, List.set_cons_zero, List.set_cons_succ]
            refine wT 23 (.bool false) rfl ?_; simp only [List.getElem_toArray, List.getElem_cons_zero, List.getElem_cons_succ, Act.put, List.setIfInBounds_toArray, List.set_cons_zero, List.set_cons_succ]
            refine wpAnyH_done (by kernel_rfl) ?_ _
            gi_wp2_with fail
            exact END.out _ (Turned.of_below HB4.out (Nat.le_refl _) NoBlock) HC.out
      · have p2' : fitsM x y.1 (F y.1) = false := by simpa using p2
        have HC : Hid (chStep x F (bt, ib) y = (bt, ib)) := Lib.hid (by rw [HCV.out, if_neg (fun h => p2 h.2.1)])
        rw [p2'] at FT
        clear p2 p2'
        refine drawn_in (by kernel_rfl) (fun _ _ h => h) (by kernel_rfl) ?_
        refine wpAny_of_held (S := fun W => W.cell? ⟨w.heap.size, 0, none⟩ = some (.pointer (some ⟨s, 0, none⟩)) ∧ W.cell? ⟨c3, 0, none⟩ = some (.slice (some ⟨gm, 0, none⟩) k k) ∧ W.cell? ⟨gm, y.1, none⟩ = some (.slice A n cap) ∧ W.cell? ⟨gm, bt, none⟩ = some (.slice A2 n2 cap2) ∧ W.cell? ⟨c6, 0, none⟩ = some (.int .i64 (bt : Int)) ∧ W.cell? ⟨c7, 0, none⟩ = some (.bool ib)) _ _ _ _ ?_
        have SZ : Hid (∀ W, Below X2.heap.size X2 W → (fun W => W.cell? ⟨w.heap.size, 0, none⟩ = some (.pointer (some ⟨s, 0, none⟩)) ∧ W.cell? ⟨c3, 0, none⟩ = some (.slice (some ⟨gm, 0, none⟩) k k) ∧ W.cell? ⟨gm, y.1, none⟩ = some (.slice A n cap) ∧ W.cell? ⟨gm, bt, none⟩ = some (.slice A2 n2 cap2) ∧ W.cell? ⟨c6, 0, none⟩ = some (.int .i64 (bt : Int)) ∧ W.cell? ⟨c7, 0, none⟩ = some (.bool ib)) W) := Lib.hid (fun W hb => by obtain ⟨u1, u2, u3, u4, u5, u6, u7, u8⟩ := F2.out W hb; exact ⟨u1, u2, u3, u4, u5, u7⟩)
        have SX3 : (fun W => W.cell? ⟨w.heap.size, 0, none⟩ = some (.pointer (some ⟨s, 0, none⟩)) ∧ W.cell? ⟨c3, 0, none⟩ = some (.slice (some ⟨gm, 0, none⟩) k k) ∧ W.cell? ⟨gm, y.1, none⟩ = some (.slice A n cap) ∧ W.cell? ⟨gm, bt, none⟩ = some (.slice A2 n2 cap2) ∧ W.cell? ⟨c6, 0, none⟩ = some (.int .i64 (bt : Int)) ∧ W.cell? ⟨c7, 0, none⟩ = some (.bool ib)) X3.drew := SZ.out X3 HB3.out
        dsimp only at SX3
        refine wT 0 (.int .i64 (8 - (fr : Int) - (n : Int))) rfl ?_; simp only [List.getElem_toArray, List.getElem_cons_zero, Act.put, List.setIfInBounds_toArray, List.set_cons_zero, List.set_cons_succ]
        refine wT 1 (.bool true) rfl ?_; simp only [List.getElem_toArray, List.getElem_cons_zero, List.getElem_cons_succ, Act.put, List.setIfInBounds_toArray, List.set_cons_zero, List.set_cons_succ]
        refine wT 2 (.bool true) rfl ?_; simp only [List.getElem_toArray, List.getElem_cons_zero, List.getElem_cons_succ, Act.put, List.setIfInBounds_toArray, List.set_cons_zero, List.set_cons_succ]
        refine wT 3 (.pointer (some ⟨s, 0, none⟩)) rfl ?_; simp only [List.getElem_toArray, List.getElem_cons_zero, List.getElem_cons_succ, Act.put, List.setIfInBounds_toArray, List.set_cons_zero, List.set_cons_succ]
        refine wT 4 (.int .i64 (y.1 : Int)) rfl ?_; simp only [List.getElem_toArray, List.getElem_cons_zero, List.getElem_cons_succ, Act.put, List.setIfInBounds_toArray, List.set_cons_zero, List.set_cons_succ]
        refine wT 5 (.slice (some ⟨gm, 0, none⟩) k k) rfl ?_; simp only [List.getElem_toArray, List.getElem_cons_zero, List.getElem_cons_succ, Act.put, List.setIfInBounds_toArray, List.set_cons_zero, List.set_cons_succ]
        refine wT 6 (.int .i64 (y.1 : Int)) rfl ?_; simp only [List.getElem_toArray, List.getElem_cons_zero, List.getElem_cons_succ, Act.put, List.setIfInBounds_toArray, List.set_cons_zero, List.set_cons_succ]
        refine wT 7 (.pointer (some ⟨gm, y.1, none⟩)) rfl ?_; simp only [List.getElem_toArray, List.getElem_cons_zero, List.getElem_cons_succ, Act.put, List.setIfInBounds_toArray, List.set_cons_zero, List.set_cons_succ]
        refine wT 8 (.slice A n cap) rfl ?_; simp only [List.getElem_toArray, List.getElem_cons_zero, List.getElem_cons_succ, Act.put, List.setIfInBounds_toArray, List.set_cons_zero, List.set_cons_succ]
        refine wpAnyH_all (rs := [9]) (by kernel_rfl) (by simp) ?_
        intro i9 hi9
        obtain rfl : i9 = 9 := by simpa using hi9
        refine op_go_g rfl (by rfl) ?_
        go_simp
        refine (FT.out _ HB3.out.drew).mono ?_
        rintro e X4 ⟨rfl, hb4⟩
        have HB4 := Lib.hid (HB3.out.drew.trans (hb4.mono HB3.out.size))
        dsimp only
        have SX4 := SZ.out X4 HB4.out
        refine ⟨SX4, ?_⟩
        refine wT 10 (.bool false) rfl ?_; simp only [List.getElem_toArray, List.getElem_cons_zero, List.getElem_cons_succ, Act.put, List.setIfInBounds_toArray, List.set_cons_zero, List.set_cons_succ]
        refine wT 11 (.bool false) rfl ?_; simp only [List.getElem_toArray, List.getElem_cons_zero, List.getElem_cons_succ, Act.put, List.setIfInBounds_toArray, List.set_cons_zero, List.set_cons_succ]
        refine wU 12 rfl ?_; simp only [List.getElem_toArray, List.getElem_cons_zero, List.getElem_cons_succ, Act.put, List.setIfInBounds_toArray, List.set_cons_zero, List.set_cons_succ]
        refine wU 13 rfl ?_; simp only [List.getElem_toArray, List.getElem_cons_zero, List.getElem_cons_succ, Act.put, List.setIfInBounds_toArray, List.set_cons_zero, List.set_cons_succ]
        refine wU 14 rfl ?_; simp only [List.getElem_toArray, List.getElem_cons_zero, List.getElem_cons_succ, Act.put, List.setIfInBounds_toArray, List.set_cons_zero, List.set_cons_succ]
        refine wU 15 rfl ?_; simp only [List.getElem_toArray, List.getElem_cons_zero, List.getElem_cons_succ, Act.put, List.setIfInBounds_toArray, List.set_cons_zero, List.set_cons_succ]
        refine wU 16 rfl ?_; simp only [List.getElem_toArray, List.getElem_cons_zero, List.getElem_cons_succ, Act.put, List.setIfInBounds_toArray, List.set_cons_zero, List.set_cons_succ]
        refine wU 17 rfl ?_; simp only [List.getElem_toArray, List.getElem_cons_zero, List.getElem_cons_succ, Act.put, List.setIfInBounds_toArray, List.set_cons_zero, List.set_cons_succ]
        refine wU 18 rfl ?_; simp only [List.getElem_toArray, List.getElem_cons_zero, List.getElem_cons_succ, Act.put, List.setIfInBounds_toArray, List.set_cons_zero, List.set_cons_succ]
        refine wU 19 rfl ?_; simp only [List.getElem_toArray, List.getElem_cons_zero, List.getElem_cons_succ, Act.put, List.setIfInBounds_toArray, List.set_cons_zero, List.set_cons_succ]
        refine wU 20 rfl ?_; simp only [List.getElem_toArray, List.getElem_cons_zero, List.getElem_cons_succ, Act.put, List.setIfInBounds_toArray, List.set_cons_zero, List.set_cons_succ]
        refine wU 21 rfl ?_; simp only [List.getElem_toArray, List.getElem_cons_zero, List.getElem_cons_succ, Act.put, List.setIfInBounds_toArray, List.set_cons_zero, List.set_cons_succ]
        refine wU 22 rfl ?_; simp only [List.getElem_toArray, List.getElem_cons_zero, List.getElem_cons_succ, Act.put, List.setIfInBounds_toArray, List.set_cons_zero, List.set_cons_succ]
        refine wT 23 (.bool false) rfl ?_; simp only [List.getElem_toArray, List.getElem_cons_zero, List.getElem_cons_succ, Act.put, List.setIfInBounds_toArray, List.set_cons_zero, List.set_cons_succ]
        refine wpAnyH_done (by kernel_rfl) ?_ _
        gi_wp2_with fail
        exact END.out _ (Turned.of_below HB4.out (Nat.le_refl _) NoBlock) HC.out
    · have HC : Hid (chStep x F (bt, ib) y = (bt, ib)) := Lib.hid (by rw [HCV.out, if_neg (fun h => p1 h.1)])
      refine drawn_in (by kernel_rfl) (fun _ _ h => h) (by kernel_rfl) ?_
      refine wpAny_of_held (S := fun W => W.cell? ⟨w.heap.size, 0, none⟩ = some (.pointer (some ⟨s, 0, none⟩)) ∧ W.cell? ⟨c3, 0, none⟩ = some (.slice (some ⟨gm, 0, none⟩) k k) ∧ W.cell? ⟨gm, y.1, none⟩ = some (.slice A n cap) ∧ W.cell? ⟨gm, bt, none⟩ = some (.slice A2 n2 cap2) ∧ W.cell? ⟨c6, 0, none⟩ = some (.int .i64 (bt : Int)) ∧ W.cell? ⟨c7, 0, none⟩ = some (.bool ib)) _ _ _ _ ?_
      have SZ : Hid (∀ W, Below X2.heap.size X2 W → (fun W => W.cell? ⟨w.heap.size, 0, none⟩ = some (.pointer (some ⟨s, 0, none⟩)) ∧ W.cell? ⟨c3, 0, none⟩ = some (.slice (some ⟨gm, 0, none⟩) k k) ∧ W.cell? ⟨gm, y.1, none⟩ = some (.slice A n cap) ∧ W.cell? ⟨gm, bt, none⟩ = some (.slice A2 n2 cap2) ∧ W.cell? ⟨c6, 0, none⟩ = some (.int .i64 (bt : Int)) ∧ W.cell? ⟨c7, 0, none⟩ = some (.bool ib)) W) := Lib.hid (fun W hb => by obtain ⟨u1, u2, u3, u4, u5, u6, u7, u8⟩ := F2.out W hb; exact ⟨u1, u2, u3, u4, u5, u7⟩)
      have SX3 : (fun W => W.cell? ⟨w.heap.size, 0, none⟩ = some (.pointer (some ⟨s, 0, none⟩)) ∧ W.cell? ⟨c3, 0, none⟩ = some (.slice (some ⟨gm, 0, none⟩) k k) ∧ W.cell? ⟨gm, y.1, none⟩ = some (.slice A n cap) ∧ W.cell? ⟨gm, bt, none⟩ = some (.slice A2 n2 cap2) ∧ W.cell? ⟨c6, 0, none⟩ = some (.int .i64 (bt : Int)) ∧ W.cell? ⟨c7, 0, none⟩ = some (.bool ib)) X3.drew := SZ.out X3 HB3.out
      dsimp only at SX3
      refine wT 0 (.int .i64 (8 - (fr : Int) - (n : Int))) rfl ?_; simp only [List.getElem_toArray, List.getElem_cons_zero, Act.put, List.setIfInBounds_toArray, List.set_cons_zero, List.set_cons_succ]
      refine wT 1 (.bool false) rfl ?_; simp only [List.getElem_toArray, List.getElem_cons_zero, List.getElem_cons_succ, Act.put, List.setIfInBounds_toArray, List.set_cons_zero, List.set_cons_succ]
      refine wT 2 (.bool false) rfl ?_; simp only [List.getElem_toArray, List.getElem_cons_zero, List.getElem_cons_succ, Act.put, List.setIfInBounds_toArray, List.set_cons_zero, List.set_cons_succ]
      refine wU 3 rfl ?_; simp only [List.getElem_toArray, List.getElem_cons_zero, List.getElem_cons_succ, Act.put, List.setIfInBounds_toArray, List.set_cons_zero, List.set_cons_succ]
      refine wU 4 rfl ?_; simp only [List.getElem_toArray, List.getElem_cons_zero, List.getElem_cons_succ, Act.put, List.setIfInBounds_toArray, List.set_cons_zero, List.set_cons_succ]
      refine wU 5 rfl ?_; simp only [List.getElem_toArray, List.getElem_cons_zero, List.getElem_cons_succ, Act.put, List.setIfInBounds_toArray, List.set_cons_zero, List.set_cons_succ]
      refine wU 6 rfl ?_; simp only [List.getElem_toArray, List.getElem_cons_zero, List.getElem_cons_succ, Act.put, List.setIfInBounds_toArray, List.set_cons_zero, List.set_cons_succ]
      refine wU 7 rfl ?_; simp only [List.getElem_toArray, List.getElem_cons_zero, List.getElem_cons_succ, Act.put, List.setIfInBounds_toArray, List.set_cons_zero, List.set_cons_succ]
      refine wU 8 rfl ?_; simp only [List.getElem_toArray, List.getElem_cons_zero, List.getElem_cons_succ, Act.put, List.setIfInBounds_toArray, List.set_cons_zero, List.set_cons_succ]
      refine wU 9 rfl ?_; simp only [List.getElem_toArray, List.getElem_cons_zero, List.getElem_cons_succ, Act.put, List.setIfInBounds_toArray, List.set_cons_zero, List.set_cons_succ]
      have HB4 := HB3
      refine wT 10 (.bool false) rfl ?_; simp only [List.getElem_toArray, List.getElem_cons_zero, List.getElem_cons_succ, Act.put, List.setIfInBounds_toArray, List.set_cons_zero, List.set_cons_succ]
      refine wT 11 (.bool false) rfl ?_; simp only [List.getElem_toArray, List.getElem_cons_zero, List.getElem_cons_succ, Act.put, List.setIfInBounds_toArray, List.set_cons_zero, List.set_cons_succ]
      refine wU 12 rfl ?_; simp only [List.getElem_toArray, List.getElem_cons_zero, List.getElem_cons_succ, Act.put, List.setIfInBounds_toArray, List.set_cons_zero, List.set_cons_succ]
      refine wU 13 rfl ?_; simp only [List.getElem_toArray, List.getElem_cons_zero, List.getElem_cons_succ, Act.put, List.setIfInBounds_toArray, List.set_cons_zero, List.set_cons_succ]
      refine wU 14 rfl ?_; simp only [List.getElem_toArray, List.getElem_cons_zero, List.getElem_cons_succ, Act.put, List.setIfInBounds_toArray, List.set_cons_zero, List.set_cons_succ]
      refine wU 15 rfl ?_; simp only [List.getElem_toArray, List.getElem_cons_zero, List.getElem_cons_succ, Act.put, List.setIfInBounds_toArray, List.set_cons_zero, List.set_cons_succ]
      refine wU 16 rfl ?_; simp only [List.getElem_toArray, List.getElem_cons_zero, List.getElem_cons_succ, Act.put, List.setIfInBounds_toArray, List.set_cons_zero, List.set_cons_succ]
      refine wU 17 rfl ?_; simp only [List.getElem_toArray, List.getElem_cons_zero, List.getElem_cons_succ, Act.put, List.setIfInBounds_toArray, List.set_cons_zero, List.set_cons_succ]
      refine wU 18 rfl ?_; simp only [List.getElem_toArray, List.getElem_cons_zero, List.getElem_cons_succ, Act.put, List.setIfInBounds_toArray, List.set_cons_zero, List.set_cons_succ]
      refine wU 19 rfl ?_; simp only [List.getElem_toArray, List.getElem_cons_zero, List.getElem_cons_succ, Act.put, List.setIfInBounds_toArray, List.set_cons_zero, List.set_cons_succ]
      refine wU 20 rfl ?_; simp only [List.getElem_toArray, List.getElem_cons_zero, List.getElem_cons_succ, Act.put, List.setIfInBounds_toArray, List.set_cons_zero, List.set_cons_succ]
      refine wU 21 rfl ?_; simp only [List.getElem_toArray, List.getElem_cons_zero, List.getElem_cons_succ, Act.put, List.setIfInBounds_toArray, List.set_cons_zero, List.set_cons_succ]
      refine wU 22 rfl ?_; simp only [List.getElem_toArray, List.getElem_cons_zero, List.getElem_cons_succ, Act.put, List.setIfInBounds_toArray, List.set_cons_zero, List.set_cons_succ]
      refine wT 23 (.bool false) rfl ?_; simp only [List.getElem_toArray, List.getElem_cons_zero, List.getElem_cons_succ, Act.put, List.setIfInBounds_toArray, List.set_cons_zero, List.set_cons_succ]
      refine wpAnyH_done (by kernel_rfl) ?_ _
      gi_wp2_with fail
      exact END.out _ (Turned.of_below HB4.out (Nat.le_refl _) NoBlock).drew HC.out
  case dn =>
    rintro X hS hK
    rw [List.take_length] at hS
    have HS := Lib.hid hS
    have HKD := Lib.hid hK
    clear hS hK
    obtain ⟨⟨bt, ib⟩, hst⟩ : ∃ st, st = chFold x F (usL x) := ⟨_, rfl⟩
    rw [← hst] at HS
    have HST : Hid (cheapM x F = (bt, ib)) := Lib.hid hst.symm
    have HBX : Hid (Below w.heap.size w X) := Lib.hid (((Turned.of_below HVB.out (Nat.le_refl _) NoBlock).after HS.out.2 (fun i hi h => by have := HNUM.out; rcases h with h | h <;> omega)).below (fun k hk => hk.elim) (Nat.le_refl _))
    have q6 := HS.out.1.1.cell 0
    have q7 := HS.out.1.2.cell 0
    simp only [List.getElem?_cons_zero] at q6 q7
    clear hst
    gi_wp2_with fail
    refine wpIn_wide.2 ?_
    go_region_held3 (fun W => W.cell? ⟨c6, 0, none⟩ = some (.int .i64 (bt : Int)) ∧ W.cell? ⟨c7, 0, none⟩ = some (.bool ib)) (first | assumption | exact ⟨q6, q7⟩) (fail)
    gi_wp2_with fail
    refine post_mark HKD.out (results_tmp2 rfl _ _ _) ⟨by rw [HST.out]; rfl, below_mark HBX.out.drew (by have := HNUM.out; omega) HKD.out⟩
  case st =>
    rintro co i X hi h hK
    exact h.elim
end
end Go.Proofs.YtpkkejdjhnmjiaaGreat
