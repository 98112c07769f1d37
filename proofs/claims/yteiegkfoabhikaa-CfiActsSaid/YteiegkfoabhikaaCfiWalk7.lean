/- The walk of layer cfi's statement CfiActs. -/
import Derived.Test.YteiegkfoabhikaaCfiStK
import Derived.Test.YteiegkfoabhikaaCfiRef4
import Derived.Test.YteiegkfoabhikaaCfiRef5
import Derived.Test.YteiegkfoabhikaaCfiRef6
import Derived.Test.YteiegkfoabhikaaCfiRef9
import Derived.Test.YteiegkfoabhikaaCfiWalk6
import Derived.Test.YteiegkfoabhikaaLaw
import Derived.OpenShut
import Derived.Deep.DeepCutAuto
import Derived.Deep.CutBlock
import Derived.Deep.DrawnRows
namespace Go.Proofs.Yteiegkfoabhikaa
open Go.RowKit Bm

/-- The blocks that the document's flash is made of. -/
def KD (M : Nat) (r : Rh) (i : Nat) : Prop := i = M ∨ i = r.gw ∨ i = r.ge

theorem StK.renew {B p f : Nat} {K K' : Nat → Prop} {m : FlashM} {w w' : World} (s : StK B p f K m w) (hb : Below w.heap.size w w') (h : ∀ i, K' i → (K i ∨ w.heap.size ≤ i) ∧ i < w'.heap.size) : StK B p f K' m w' := by
  obtain ⟨⟨h0, hp, hf, x, ho⟩, hs, hk⟩ := s
  exact ⟨⟨h0, hp, hf, x.below hb (Nat.le_refl _), fun i hi => ⟨(ho i hi).1, fun e => by
    rcases (h i e).1 with e | e
    · exact (ho i hi).2 e
    · have := x.own_lt hi
      omega⟩⟩, Nat.le_trans hs hb.size, fun i hi => (h i hi).2⟩
theorem DocAt.gw_lt {w : World} {M : Nat} {r : Rh} {m : FlashM} (h : DocAt w M r m) : r.gw < w.heap.size := h.chip.words.lt
theorem DocAt.ge_lt {w : World} {M : Nat} {r : Rh} {m : FlashM} (h : DocAt w M r m) : r.ge < w.heap.size := h.chip.wear.lt

/-- Behind an act: both flashes are the same plain one. -/
structure Acted (B p f M : Nat) (w0 w : World) (r : Rh) (d : FlashM) : Prop where
  st : StK B p f (KD M r) d w
  doc : DocAt w M r d
  ok : FlashOk 3 d
  below : Below B w0 w

theorem alienTF : Alien 36 := ⟨by decide, by decide, by decide, by decide, by decide⟩
/-- The document's flash has turned (its own block was stored whole, or its chip's cells). -/
theorem Acted.mk1 {B p f M P : Nat} {w0 w3 w4 w5 : World} {r r' : Rh} {d d' : FlashM} (s : StK B p f (fun i => KD M r i ∨ i = P) d' w3) (hb : Below w3.heap.size w3 w4) (hn : RefNew w3 r r') (hc : RefAt w4 r' d'.chip)
    (hM : At w4 M 36 (rfCells r d)) (hM5 : At w5 M 36 (rfCells r' d')) (t : Turned (Just M) w4 w5) (ok : FlashOk 3 d') (h0 : Below B w0 w3) (hMB : B ≤ M) : Acted B p f M w0 w5 r' d' := by
  have s4 : StK B p f (KD M r') d' w4 := s.renew hb (by
    rintro i (e | e | e)
    · rw [e]; exact ⟨.inl (.inl (.inl rfl)), hM.lt⟩
    · rw [e]
      refine ⟨?_, hc.words.lt⟩
      rcases hn.1 with h | h
      · exact .inr h
      · rw [h]; exact .inl (.inl (.inr (.inl rfl)))
    · rw [e]
      refine ⟨?_, hc.wear.lt⟩
      rcases hn.2 with h | h
      · exact .inr h
      · rw [h]; exact .inl (.inl (.inr (.inr rfl))))
  have hs := s.size
  exact ⟨s4.other hM alienTF t, ⟨hM5, hc.other hM t⟩, ok, h0.trans ((hb.mono hs).trans (t.below (fun i hi => by unfold Just at hi; omega) (by have := hb.size; omega)))⟩
theorem DocAt.act {B M P : Nat} {w w' : World} {r : Rh} {d : FlashM} (h : DocAt w M r d) (t : Turned (May B (fun i => KD M r i ∨ i = P)) w w') : DocAt w' M r d :=
  h.kept t (fun e => e.2 (.inl (.inl rfl))) (fun e => e.2 (.inl (.inr (.inl rfl)))) (fun e => e.2 (.inl (.inr (.inr rfl))))
theorem At.act {B M P : Nat} {w w' : World} {r : Rh} {T : TypeId} {cs : List Value} (h : At w P T cs) (t : Turned (May B (fun i => KD M r i ∨ i = P)) w w') : At w' P T cs := h.kept t (fun e => e.2 (.inr rfl))
theorem ref_same {w : World} {r : Rh} {c c' : ChipM} (h : RefAt w r c) (h1 : c'.ws = c.ws) (h2 : c'.wear = c.wear) : RefAt w r c' := by
  cases c; cases c'
  simp only at h1 h2
  subst h1 h2
  exact ⟨h.words, h.wear, h.wl, h.el, h.wm, h.em⟩

/-- The chip of the document's flash is set, cell by cell. -/
theorem At.chipTo {w : World} {M : Nat} {r : Rh} {d : FlashM} (h : At w M 36 (rfCells r d)) (r1 : Rh) (c1 : ChipM) : At (sixAt w M r1 c1) M 36 (rfCells r1 { d with chip := c1 }) :=
  ((((((h.put 0 _).put 1 _).put 2 _).put 3 _).put 4 _).put 5 _).as (set_chip r r1 d c1)
theorem chipAt_turned (w : World) (b : Nat) (r1 : Rh) (c1 : ChipM) : Turned (Just b) w (sixAt w b r1 c1) :=
  ((((((Turned.refl (Just b) w).setCell (p := ⟨b, 0, none⟩) (fun _ => rfl) _).setCell (p := ⟨b, 1, none⟩) (fun _ => rfl) _).setCell (p := ⟨b, 2, none⟩) (fun _ => rfl) _).setCell (p := ⟨b, 3, none⟩) (fun _ => rfl) _).setCell (p := ⟨b, 4, none⟩) (fun _ => rfl) _).setCell (p := ⟨b, 5, none⟩) (fun _ => rfl) _

theorem Acted.mk6 {B p f M P : Nat} {w0 w3 w4 w6 w7 : World} {r : Rh} {d d' : FlashM} {cs6 : List Value} (c1 : ChipM) (s : StK B p f (fun i => KD M r i ∨ i = P) d' w3) (hb4 : Below w3.heap.size w3 w4) (D4 : DocAt w4 M r d)
    (hb6 : Below (sixAt w4 M r c1).heap.size (sixAt w4 M r c1) w6) (A6 : At w6 M 36 cs6) (A7 : At w7 M 36 (rfCells r d')) (t7 : Turned (Just M) w6 w7) (ok : FlashOk 3 d')
    (h1 : d'.chip.ws = d.chip.ws) (h2 : d'.chip.wear = d.chip.wear) (h0 : Below B w0 w3) (hMB : B ≤ M) : Acted B p f M w0 w7 r d' := by
  have t5 := chipAt_turned w4 M r c1
  have s7 := (((s.below hb4).other D4.own alienTF t5).below hb6).other A6 alienTF t7
  have c7 := ((D4.chip.other D4.own t5).below hb6).other A6 t7
  have b4 := hb4.mono s.size
  have z4 := (s.below hb4).size
  have b5 := t5.below (B := B) (fun i hi => by unfold Just at hi; omega) z4
  have z5 := ((s.below hb4).other D4.own alienTF t5).size
  have b6 := hb6.mono z5
  have z6 := (((s.below hb4).other D4.own alienTF t5).below hb6).size
  have b7 := t7.below (B := B) (fun i hi => by unfold Just at hi; omega) z6
  exact ⟨s7.less (fun i h => .inl h), ⟨A7, ref_same c7 h1 h2⟩, ok, h0.trans (b4.trans (b5.trans (b6.trans b7)))⟩

theorem Acted.on {B p f M : Nat} {w0 wc w2 w3 : World} {r : Rh} {d : FlashM} (Z : Acted B p f M w0 wc r d) (h2 : Below wc.drew.heap.size wc.drew w2) (h3 : Below w2.heap.size w2 w3) (n : Nat) : Acted B p f M w0 (w3.drewN n) r d := by
  have b1 : Below wc.heap.size wc w2 := ((Below.refl _ wc).drew).trans h2
  have b2 : Below wc.heap.size wc w3 := b1.trans (h3.mono b1.size)
  have b : Below wc.heap.size wc (w3.drewN n) := b2.trans (below_drewN _ _ _)
  exact ⟨Z.st.below b, Z.doc.below b, Z.ok, Z.below.trans (b.mono Z.st.size)⟩

/-- The whole load of the document's flash, held: the walk of a region stops there, and is met by a law. -/
def HeldLd (d : Option Tmp) (x : Operand) (ty : TypeId) (pos : String) (af : Array Edge) (gd : Option (Nat × Bool)) (a : Go.Act) (w : World) (K : Go.Act → World → Prop) (Q : Exit → Go.Act → World → Prop) : Prop :=
  Oper.wp Try.prog ⟨d, .load 36 x, ty, pos, af, gd⟩ a w K Q
theorem held_ld (d : Option Tmp) (x : Operand) (ty : TypeId) (pos : String) (af : Array Edge) (gd : Option (Nat × Bool)) (a : Go.Act) (w : World) (K : Go.Act → World → Prop) (Q : Exit → Go.Act → World → Prop) :
    Oper.wp Try.prog ⟨d, .load 36 x, ty, pos, af, gd⟩ a w K Q = HeldLd d x ty pos af gd a w K Q := rfl
theorem HeldLd.of {d : Option Tmp} {x : Operand} {ty : TypeId} {pos : String} {af : Array Edge} {gd : Option (Nat × Bool)} {a : Go.Act} {w : World} {K : Go.Act → World → Prop} {Q : Exit → Go.Act → World → Prop} {M : Nat} {cs : List Value}
    (hx : a.eval x = .pointer (some ⟨M, 0, none⟩)) (hA : At w M 36 cs) (hn : cs.length = 77) (h : K (a.put d (.agg cs.toArray)) w) : HeldLd d x ty pos af gd a w K Q :=
  wp_ld x rfl hx hA hn h
attribute [local go_sem ↓] Go.wp_at_zero Go.wp_at_succ held_ld

set_option maxRecDepth 100000 in
set_option maxHeartbeats 16000000 in
theorem cfiActs_walk (a0 : Int) (b0 : (Lit.int .u8 a0).wf = true) (A : Option Addr) (n cap : Nat) (xs : List ActM) (w : World) (hr : ReadsA w A n cap xs) :
    Calls Try.prog 3 #[.int .u8 a0, .slice A n cap] w fun e w' => e = .returned (.bool true) ∧ Below w.heap.size w w' := by
  have c0 := bounds_u8 b0
  have hle := hr.le
  have hmx := hr.max
  unfold maxLen at hmx
  by_cases hn : 80 < n
  · go_enter Try.func3, Try.ntmps3
    go_wp2_with fail
    refine (alive3_any w).mono ?_
    rintro e wa ⟨rfl, hBa⟩
    go_wp2
    go_ret
    exact ⟨rfl, hBa⟩
  have hz := rf_zero
  have hz6 : rfZero.length = 77 := rf_zero_len
  have e0 : 0 ≤ a0 % 4 := by omega
  have e1 : a0 % 4 ≤ 9223372036854775807 := by omega
  have CN := Lib.hid (newOk 3 (a0 % 4) (by omega) (by omega) e0 e1)
  clear b0
  go_enter Try.func3, Try.ntmps3
  go_wp2_with fail
  refine (alive3_any w).mono ?_
  rintro e wa ⟨rfl, hBa⟩
  go_wp2_with fail
  refine (begin_st w.heap.size 3 (a0 % 4) wa hBa.size (by omega) (by omega) e0 e1).mono ?_
  rintro e w1 ⟨p, f, rfl, s0, t1⟩
  have q1 := hBa.trans t1
  clear hBa t1
  have hnw := rnew_yes 3 (a0 % 4) w1 (by omega) (by omega) e0 e1
  obtain ⟨cc, hcc⟩ : ∃ cc, cc = mNew 3 (a0 % 4) := ⟨_, rfl⟩
  rw [← hcc] at s0 hnw CN
  have HNW := Lib.hid hnw
  have S0 := Lib.hid s0
  have Q1 := Lib.hid q1
  clear hcc hnw s0 q1
  go_wp2_with (first
    | (go_at_call 12; (refine HNW.out.mono ?_); rintro e w2 ⟨r, rfl, hc2, hb2, g1, g2⟩; simp only [refVal]; have HC2 := Lib.hid hc2; have HB2 := Lib.hid hb2; have G1 := Lib.hid g1; have G2 := Lib.hid g2; have rc := reset_cells r (fNew cc); clear hc2 hb2 g1 g2)
    | ((refine wpList_st (cs' := rfCells r (fReset (fNew cc))) (.tmp 7) (.tmp 32) rfl (by rfl) (by rfl) (by simp only [← rc]; rfl) (At.alloc_new _ 36 rfZero rfl rfl) rf_zero_len (rf_len _ _) (rf_one _ _) ?_); intro w3 A3 T3; have A3' := Lib.hid A3; have T3' := Lib.hid T3; clear A3 T3 rc))
  obtain ⟨M, hM⟩ : ∃ M, M = w2.heap.size := ⟨_, rfl⟩
  have ba : Below w1.heap.size w1 (w2.alloc (.cells rfZero.toArray 36)) := HB2.out.alloc HB2.out.size _
  have hs2 := HB2.out.size
  have b3 : Below w1.heap.size w1 w3 := ba.trans (T3'.out.below (fun i hi => by unfold Just at hi; omega) ba.size)
  have l3 : w2.heap.size < w3.heap.size := A3'.out.lt
  have hcW : RefAt w3 r cc := (HC2.out.below ((Below.refl _ w2).alloc (Nat.le_refl _) _)).other (At.alloc_new _ 36 rfZero rfl rfl) T3'.out
  have D0 : DocAt w3 M r (fNew cc) := ⟨by rw [hM]; exact A3'.out, hcW⟩
  have K0 : StK w.heap.size p f (KD M r) (fNew cc) w3 := S0.out.toK.renew b3 (by
    rintro i (e | e | e)
    · rw [e]; exact ⟨.inr (by omega), by omega⟩
    · rw [e]; exact ⟨.inr G1.out, hcW.words.lt⟩
    · rw [e]; exact ⟨.inr G2.out, hcW.wear.lt⟩)
  have Z0 : Acted w.heap.size p f M w w3 r (fNew cc) := ⟨K0, D0, CN.out, Q1.out.trans (b3.mono Q1.out.size)⟩
  have hMB : w.heap.size ≤ M := by have := Q1.out.size; omega
  rw [← hM]
  have HMB := Lib.hid hMB
  clear hM hMB ba hs2 b3 l3 hcW D0 K0 c0 e0 e1
  go_loopw [37] (fun i wr => ∃ j : Nat, ∃ d r, j ≤ n ∧ i = .int .i64 j ∧ Acted w.heap.size p f M w wr r d) (fun i _ => n - (intOf i).toNat)
  case atStart => exact ⟨0, _, r, by omega, rfl, Z0⟩
  case round =>
    clear Z0
    obtain ⟨j, d, r, hj, rfl, Z⟩ := hrel
    by_cases hlt : j < n
    · obtain ⟨ad, x, rfl, hx⟩ := (hr.kept Z.below).at_ hlt
      have b0 := hx.b0
      have b1 := hx.b1
      have x0 := hx.d0
      have x1 := hx.d1
      have x2 := hx.d2
      clear hx
      obtain ⟨P, hP⟩ : ∃ P, P = wr.heap.size := ⟨_, rfl⟩
      obtain ⟨V, hV⟩ : ∃ V, V = wr.alloc (.cells [.int .u8 x.kind, .int .i64 x.at_, .int .u32 (U x.v)].toArray 38) := ⟨_, rfl⟩
      have ba : Below wr.heap.size wr V := by rw [hV]; exact (Below.refl _ wr).alloc (Nat.le_refl _) _
      have hPV : At V P 38 [.int .u8 x.kind, .int .i64 x.at_, .int .u32 (U x.v)] := by rw [hV, hP]; exact At.news wr _ _
      have sP : StK w.heap.size p f (fun i => KD M r i ∨ i = P) d V := Z.st.more ba P (by omega) hPV.lt
      have dV : DocAt V M r d := Z.doc.below ba
      have bV : Below w.heap.size w V := Z.below.trans (ba.mono Z.below.size)
      have ok := Z.ok
      have HV := Lib.hid hV
      have hPM : P ≠ M := hPV.ne dV.own (by decide)
      have HPM := Lib.hid hPM
      have HP := Lib.hid hP
      clear hV hP ba Z hPM
      have HPV := Lib.hid hPV
      have y0 := hPV.cell 0
      have y1 := hPV.cell 1
      have y2 := hPV.cell 2
      simp only [List.getElem?_cons_succ, List.getElem?_cons_zero] at y0 y1 y2
      go_upto_region 13 with fail
      change Code.wp _ _ _ _ (wr.alloc (.cells [.int .u8 x.kind, .int .i64 x.at_, .int .u32 (U x.v)].toArray 38))
      rw [← HV.out]
      rw [← HP.out]
      go_upto_block 2 with fail
      go_cut [10, 11] (fun s10 s11 wx => ∃ (e : Int) (d' : FlashM) (r' : Rh), s10 = .int .i64 e ∧ s11 = .int .i64 e ∧ Acted w.heap.size p f M w wx r' d')
      case first =>
        have SP := Lib.hid sP
        have DV := Lib.hid dV
        have BV := Lib.hid bV
        have OK := Lib.hid ok
        clear sP dV bV hPV ok
        by_cases k3 : x.kind % 8 = 3
        · have K3 : (x.kind % 8 == 3) = true := by rw [beq_iff_eq]; exact k3
          clear k3
          have RD := Lib.hid (fun W hW => fref_read r d 3 x.at_ W OK.out hW)
          go_wp2_with (first
            | (go_at_call 13; (with_reducible refine (SP.out.read OK.out x.at_).mono ?_); rintro e w3 ⟨rfl, nr, rfl⟩; have D3 := Lib.hid (DV.out.below (below_drewN V.heap.size V nr)))
            | (with_reducible refine wpList_ld (.tmp 7) rfl rfl rfl D3.out.own (rf_len _ _) ?_)
            | (go_at_call 14; (refine (RD.out _ D3.out.chip).mono ?_); rintro e w4 ⟨rfl, hb4⟩; have HB4 := Lib.hid hb4; clear hb4))
          all_goals (
            go_meet
            exact ⟨_, d, r, rfl, rfl, ⟨((SP.out.below (below_drewN V.heap.size V nr)).below HB4.out).less (fun i h => .inl h), D3.out.below HB4.out, OK.out, (BV.out.trans (below_drewN _ V nr)).trans (HB4.out.mono (by have := BV.out.size; exact this))⟩⟩)
        have K3 : (x.kind % 8 == 3) = false := by rw [beq_eq_false_iff_ne]; exact k3
        by_cases k4 : x.kind % 8 = 4
        · have K4 : (x.kind % 8 == 4) = true := by rw [beq_iff_eq]; exact k4
          clear k3 k4
          have RT := Lib.hid (fun W hW => rtick_any r d 3 x.at_ W OK.out hW b1.1 b1.2)
          go_wp2_with (first
            | (go_at_call 15; (with_reducible refine (SP.out.tick OK.out x.at_ b1.1 b1.2).mono ?_); rintro e w3 ⟨rfl, s3, t3⟩; have S3 := Lib.hid s3; have TT := Lib.hid t3; have D3 := Lib.hid (DV.out.act t3); have hP3 := HPV.out.act t3; have z1 := hP3.cell 1; simp only [List.getElem?_cons_succ, List.getElem?_cons_zero] at z1; clear s3 t3 hP3)
            | (with_reducible refine wpList_ld (.tmp 7) rfl rfl rfl D3.out.own (rf_len _ _) ?_)
            | (go_at_call 16; (refine (RT.out _ D3.out.chip).mono ?_); rintro e w4 ⟨r', rfl, hc4, hb4, hn4⟩; simp only [rfVal]; have HB4 := Lib.hid hb4; have HC4 := Lib.hid hc4; have HN4 := Lib.hid hn4; have D4 := Lib.hid (D3.out.below hb4); clear hb4 hc4 hn4)
            | ((with_reducible refine wpList_st (.tmp 7) (.tmp 91) rfl rfl rfl rfl D4.out.own (rf_len _ _) (rf_len _ _) (rf_one _ _) ?_); intro w5 A5 T5; have A5' := Lib.hid A5; have T5' := Lib.hid T5; clear A5 T5))
          go_meet
          exact ⟨_, _, r', rfl, rfl, Acted.mk1 S3.out HB4.out HN4.out HC4.out D4.out.own A5'.out T5'.out (OK.out.tick x.at_) (BV.out.trans (TT.out.below (fun i h => h.1) BV.out.size)) HMB.out⟩
        have K4 : (x.kind % 8 == 4) = false := by rw [beq_eq_false_iff_ne]; exact k4
        by_cases k5 : x.kind % 8 = 5
        · have K5 : (x.kind % 8 == 5) = true := by rw [beq_iff_eq]; exact k5
          clear k3 k4 k5
          have hl1 : 1 ≤ d.chip.ws.length := by have := OK.out.chip.words; omega
          have RF := Lib.hid (fun W => rfuse_any r d.chip x.at_ x.v W hl1)
          have OK1 := Lib.hid (OK.out.chipTo _ (OK.out.chip.fuse x.at_ x.v b1.2))
          clear hl1
          go_wp2_with (first
            | (go_at_call 17; (with_reducible refine (SP.out.fuse OK.out x.at_ x.v).mono ?_); rintro e w3 ⟨rfl, s3, t3⟩; have S3 := Lib.hid s3; have TT := Lib.hid t3; have D3 := Lib.hid (DV.out.act t3); have hP3 := HPV.out.act t3; have z1 := hP3.cell 1; have z2 := hP3.cell 2; simp only [List.getElem?_cons_succ, List.getElem?_cons_zero] at z1 z2; have g0 := D3.out.own.cell 0; have g1 := D3.out.own.cell 1; have g2 := D3.out.own.cell 2; have g3 := D3.out.own.cell 3; have g4 := D3.out.own.cell 4; have g5 := D3.out.own.cell 5; simp only [rfg0, rfg1, rfg2, rfg3, rfg4, rfg5] at g0 g1 g2 g3 g4 g5; clear s3 t3 hP3 y0 y1 y2)
            | (go_at_call 18; (refine (RF.out _).mono ?_); rintro e w4 ⟨rfl, hb4⟩; simp only [refVal]; have HB4 := Lib.hid hb4; have D4 := Lib.hid (D3.out.below hb4); clear hb4 g0 g1 g2 g3 g4 g5 z1 z2; have g0 := D4.out.own.cell 0; have g1 := D4.out.own.cell 1; have g2 := D4.out.own.cell 2; have g3 := D4.out.own.cell 3; have g4 := D4.out.own.cell 4; have g5 := D4.out.own.cell 5; simp only [rfg0, rfg1, rfg2, rfg3, rfg4, rfg5] at g0 g1 g2 g3 g4 g5; have f0 := D4.out.own.frozen 0; have f1 := D4.out.own.frozen 1; have f2 := D4.out.own.frozen 2; have f3 := D4.out.own.frozen 3; have f4 := D4.out.own.frozen 4; have f5 := D4.out.own.frozen 5))
          go_meet
          exact ⟨_, _, r, rfl, rfl, Acted.mk1 S3.out HB4.out (RefNew.refl _ _) (ref_same D4.out.chip rfl rfl) D4.out.own (D4.out.own.chipTo r (mFuse d.chip x.at_ x.v)) (chipAt_turned _ _ _ _) OK1.out (BV.out.trans (TT.out.below (fun i h => h.1) BV.out.size)) HMB.out⟩
        have K5 : (x.kind % 8 == 5) = false := by rw [beq_eq_false_iff_ne]; exact k5
        by_cases k6 : x.kind % 8 = 6
        · have K6 : (x.kind % 8 == 6) = true := by rw [beq_iff_eq]; exact k6
          clear k3 k4 k5 k6
          have RO := Lib.hid (fun W => ron_any r d.chip W)
          have OK1 := Lib.hid ((OK.out.chipTo _ OK.out.chip.on).reset)
          have RS := Lib.hid (fun W => rreset_any r { d with chip := mOn d.chip } W)
          go_wp2_with (first
            | (go_at_call 19; (with_reducible refine (SP.out.on OK.out).mono ?_); rintro e w2 ⟨rfl, s2, t2⟩; have S2 := Lib.hid s2; have T2 := Lib.hid t2; clear s2 t2)
            | (go_at_call 20; (with_reducible refine S2.out.reset.mono ?_); rintro e w3 ⟨rfl, s3, t3⟩; have S3 := Lib.hid s3; have TT := Lib.hid (T2.out.trans t3); have D3 := Lib.hid (DV.out.act (T2.out.trans t3)); have g0 := D3.out.own.cell 0; have g1 := D3.out.own.cell 1; have g2 := D3.out.own.cell 2; have g3 := D3.out.own.cell 3; have g4 := D3.out.own.cell 4; have g5 := D3.out.own.cell 5; simp only [rfg0, rfg1, rfg2, rfg3, rfg4, rfg5] at g0 g1 g2 g3 g4 g5; clear s3 t3 y0 y1 y2)
            | (go_at_call 21; (refine (RO.out _).mono ?_); rintro e w4 ⟨rfl, hb4⟩; simp only [refVal]; have HB4 := Lib.hid hb4; have D4 := Lib.hid (D3.out.below hb4); clear hb4 g0 g1 g2 g3 g4 g5; have g0 := D4.out.own.cell 0; have g1 := D4.out.own.cell 1; have g2 := D4.out.own.cell 2; have g3 := D4.out.own.cell 3; have g4 := D4.out.own.cell 4; have g5 := D4.out.own.cell 5; simp only [rfg0, rfg1, rfg2, rfg3, rfg4, rfg5] at g0 g1 g2 g3 g4 g5; have f0 := D4.out.own.frozen 0; have f1 := D4.out.own.frozen 1; have f2 := D4.out.own.frozen 2; have f3 := D4.out.own.frozen 3; have f4 := D4.out.own.frozen 4; have f5 := D4.out.own.frozen 5)
            | (with_reducible refine wpList_ld (.tmp 7) rfl rfl rfl (D4.out.own.chipTo r (mOn d.chip)) (rf_len _ _) ?_)
            | (go_at_call 22; (refine (RS.out _).mono ?_); rintro e w6 ⟨rfl, hb6⟩; simp only [rfVal]; have HB6 := Lib.hid hb6; have A6 := Lib.hid ((D4.out.own.chipTo r (mOn d.chip)).kept (Turned.of_below hb6 (Nat.le_refl _) NoBlock) (fun h => h)); clear hb6)
            | ((with_reducible refine wpList_st (.tmp 7) (.tmp 120) rfl rfl rfl rfl A6.out (rf_len _ _) (rf_len _ _) (rf_one _ _) ?_); intro w7 A7 T7; have A7' := Lib.hid A7; have T7' := Lib.hid T7; clear A7 T7))
          go_meet
          exact ⟨_, _, r, rfl, rfl, Acted.mk6 (mOn d.chip) S3.out HB4.out D4.out HB6.out A6.out A7'.out T7'.out OK1.out rfl rfl (BV.out.trans (TT.out.below (fun i h => h.1) BV.out.size)) HMB.out⟩
        have K6 : (x.kind % 8 == 6) = false := by rw [beq_eq_false_iff_ne]; exact k6
        by_cases k7 : x.kind % 8 = 7
        · have K7 : (x.kind % 8 == 7) = true := by rw [beq_iff_eq]; exact k7
          clear k3 k4 k5 k6 k7
          go_wp2_with fail
          go_meet
          exact ⟨_, d, r, rfl, rfl, ⟨SP.out.less (fun i h => .inl h), DV.out, OK.out, BV.out⟩⟩
        have K7 : (x.kind % 8 == 7) = false := by rw [beq_eq_false_iff_ne]; exact k7
        clear k3 k4 k5 k6 k7
        have RW := Lib.hid (fun W => rwrite_any r d 3 x.at_ x.v W OK.out)
        have FC := Lib.hid (fWrite_chip d x.at_ x.v)
        go_wp2_with (first
          | (go_at_call 23; (with_reducible refine (SP.out.write OK.out x.at_ x.v).mono ?_); rintro e w3 ⟨rfl, s3, t3⟩; have S3 := Lib.hid s3; have TT := Lib.hid t3; have D3 := Lib.hid (DV.out.act t3); have hP3 := HPV.out.act t3; have z1 := hP3.cell 1; have z2 := hP3.cell 2; simp only [List.getElem?_cons_succ, List.getElem?_cons_zero] at z1 z2; clear s3 t3 hP3)
          | (with_reducible refine wpList_ld (.tmp 7) rfl rfl rfl D3.out.own (rf_len _ _) ?_)
          | (go_at_call 24; (refine (RW.out _).mono ?_); rintro e w4 ⟨rfl, hb4⟩; simp only [rfVal]; have HB4 := Lib.hid hb4; have D4 := Lib.hid (D3.out.below hb4); clear hb4)
          | ((with_reducible refine wpList_st (.tmp 7) (.tmp 57) rfl rfl rfl rfl D4.out.own (rf_len _ _) (rf_len _ _) (rf_one _ _) ?_); intro w5 A5 T5; have A5' := Lib.hid A5; have T5' := Lib.hid T5; clear A5 T5))
        go_meet
        exact ⟨_, _, r, rfl, rfl, Acted.mk1 S3.out HB4.out (RefNew.refl _ _) (by rw [FC.out]; exact D4.out.chip) D4.out.own A5'.out T5'.out (OK.out.write x.at_ x.v) (BV.out.trans (TT.out.below (fun i h => h.1) BV.out.size)) HMB.out⟩
      case rest =>
        obtain ⟨e, d', r', rfl, rfl, Z'⟩ := hcut
        have ok' := Z'.ok
        have SD := Lib.hid (Z'.st.drewN 1)
        have CS := Lib.hid ((Z'.st.drewN 1).st.status Z'.ok)
        have CR := Lib.hid (fun V => rstatus_any r' d' 3 V Z'.ok)
        have DD : Hid (DocAt wc.drew M r' d') := Lib.hid (Z'.doc.below ((Below.refl _ wc).drew))
        have ZZ := Lib.hid Z'
        have OKK := Lib.hid ok'
        have g0 := DD.out.own.cell 0
        simp only [rfg0] at g0
        clear Z' ok'
        go_wp2
        go_region_with (first
          | (go_at_call 25; (refine CS.out.mono ?_); rintro e w1 ⟨rfl, rfl⟩)
          | (refine HeldLd.of (by rfl) DD.out.own (rf_len _ _) ?_)
          | (go_at_call 26; (refine (CR.out _).mono ?_); rintro e w2 ⟨rfl, hb2⟩; have HB2' := Lib.hid hb2; have D2 := Lib.hid (DD.out.below hb2); have h0 := D2.out.own.cell 0; simp only [rfg0] at h0; clear hb2)
          | (go_at_call 28; (refine ((SD.out.below HB2'.out).st.words OKK.out).mono ?_); rintro e w3 ⟨g, cg, rest, rfl, hA3, hl3, hm3, hg3, hb3⟩; have HB3 := Lib.hid hb3; have D3 := Lib.hid (D2.out.below hb3); have i0 := D3.out.own.cell 0; simp only [rfg0] at i0; rw [Us_length]; have RA := Lib.hid (ReadsU.of_at hA3 hl3 hm3); have RB := Lib.hid (ReadsU.of_at D3.out.chip.words D3.out.chip.wl D3.out.chip.wm); clear hA3 hl3 hm3 hg3 hb3)
          | (go_at_call 27; (refine (same_words _ _ _ _ _ _ _ RA.out RB.out (by have := OKK.out.len; omega)).mono ?_); rintro e w4 ⟨rfl, mm, rfl⟩))
        all_goals
          have ZW := Lib.hid (ZZ.out.on HB2'.out HB3.out mm)
          obtain ⟨W, hW⟩ : ∃ W, W = w3.drewN mm := ⟨_, rfl⟩
          rw [← hW]
          rw [← hW] at ZW
          clear hW g0 h0 i0
          go_wp2
          go_roundw
          case rel => exact ⟨j + 1, d', r', by omega, by go_num, ZW.out⟩
          case measure => simp [intOf]; omega
    · obtain rfl : j = n := by omega
      have ZB := Lib.hid Z.below
      clear Z
      go_wp2
      go_ret
      exact ⟨rfl, ZB.out⟩
end Go.Proofs.Yteiegkfoabhikaa
