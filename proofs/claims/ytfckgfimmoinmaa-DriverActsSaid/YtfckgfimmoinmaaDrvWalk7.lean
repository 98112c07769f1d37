/- The walk of layer driver's statement DriverActs. -/
import Derived.Test.YtfckgfimmoinmaaDrvActs
import Derived.Test.YtfckgfimmoinmaaDrvBuild
import Derived.Test.YtfckgfimmoinmaaNorRC
import Derived.Test.YtfckgfimmoinmaaLaw
import Derived.OpenShut
import Derived.Deep.DeepCutAuto
import Derived.Deep.CutBlock
import Derived.Deep.DrawnRows
import Derived.Deep.RegionHeld3
import Derived.Test.YtfckgfimmoinmaaCfiRef5
import Derived.Test.YtfckgfimmoinmaaNorRA
namespace Go.Proofs.Ytfckgfimmoinmaa
open Go.RowKit Bm

theorem ref_size : (Try.prog.info? 35).map (·.size) = some 6 := by kernel_rfl
/-- What a driver's row has behind its chip. -/
def dcT (m : FlashM) (t : Int) : List Value := [.int .i64 m.mode, .int .i64 m.wait, .int .u32 (U m.errors)] ++ (lockCells m.locks ++ (rfTail m ++ [.int .i64 t]))
theorem rd_split (r : Rh) (m : FlashM) (t : Int) : rdCells r m t = refCells r m.chip ++ dcT m t := by
  unfold rdCells rfCells rfHead dcT
  simp only [List.append_assoc]
theorem ref_len (r : Rh) (c : ChipM) : (refCells r c).length = 6 := rfl
theorem ref_one6 (r : Rh) (c : ChipM) : ∀ u ∈ refCells r c, u.oneCell' = true := by
  intro u hu
  simp only [refCells, List.mem_cons, List.not_mem_nil, or_false] at hu
  rcases hu with rfl | rfl | rfl | rfl | rfl | rfl <;> rfl
theorem ref_sameD {w : World} {r : Rh} {c c' : ChipM} (h : RefAt w r c) (h1 : c'.ws = c.ws) (h2 : c'.wear = c.wear) : RefAt w r c' := by
  cases c; cases c'
  simp only at h1 h2
  subst h1 h2
  exact ⟨h.words, h.wear, h.wl, h.el, h.wm, h.em⟩
theorem ActedD.mk6 {B p f q M P : Nat} {w0 w5 w6 w7 w8 w9 : World} {r : Rh} {d' : DrvM} {c0 : ChipM} {cs6 cs7 : List Value} {T : Int} (s : Dv B p f q 3 (fun i => KX M r i ∨ i = P) d' w5) (hb6 : Below w5.heap.size w5 w6) (hc6 : RefAt w6 r c0) (A6 : At w6 M 41 cs6)
    (A7 : At w7 M 41 cs7) (t7 : Turned (Just M) w6 w7) (hb8 : Below w7.heap.size w7 w8) (A9 : At w9 M 41 (rdCells r d'.f d'.t)) (t9 : Turned (Just M) w8 w9)
    (e1 : d'.f.chip.ws = c0.ws) (e2 : d'.f.chip.wear = c0.wear) (ok : DrvOk 3 d') (t0 : 0 ≤ d'.t) (t1 : d'.t ≤ T) (h0 : Below B w0 w5) (hMB : B ≤ M) : ActedD B p f q M w0 w9 r d' T := by
  have A8 := A7.kept (Turned.of_below hb8 (Nat.le_refl _) NoBlock) (fun h => h)
  have s6 := s.below hb6
  have s7 := s6.other A6 alienTD (by decide) t7
  have s8 := s7.below hb8
  have s9 := s8.other A8 alienTD (by decide) t9
  have c9 := ((hc6.otherT A6 (by decide) (by decide) t7).below hb8).otherT A8 (by decide) (by decide) t9
  have b6 := hb6.mono s.size
  have b7 := t7.below (B := B) (fun i hi => by unfold Just at hi; omega) s6.size
  have b8 := hb8.mono s7.size
  have b9 := t9.below (B := B) (fun i hi => by unfold Just at hi; omega) s8.size
  exact ⟨s9.less (fun i h => .inl h), A9, ref_sameD c9 e1 e2, ok, t0, t1, h0.trans (b6.trans (b7.trans (b8.trans b9))), hMB⟩
theorem Dv.fuseD {B p f q k : Nat} {K : Nat → Prop} {d : DrvM} {w : World} (s : Dv B p f q k K d w) (ok : DrvOk k d) (n : Int) (v : BitVec 32) :
    Calls Try.prog 22 #[.pointer (some ⟨p, 0, none⟩), .int .i64 n, .int .u32 (U v)] w (DvOut B p f q k K ⟨{ d.f with chip := mFuse d.f.chip n v }, d.t⟩ (.tuple #[]) w) := by
  refine (s.st.fuse ok.ok n v).mono ?_
  rintro e w' ⟨rfl, s', t⟩
  exact ⟨rfl, ⟨s', s.own.kept t (fun h => h.2 (.inr rfl)), s.qB⟩, may_less t (fun i h => .inl h)⟩
theorem Dv.on {B p f q k : Nat} {K : Nat → Prop} {d : DrvM} {w : World} (s : Dv B p f q k K d w) (ok : FlashOk k d.f) :
    Calls Try.prog 24 #[.pointer (some ⟨p, 0, none⟩)] w (DvOut B p f q k K ⟨{ d.f with chip := mOn d.f.chip }, d.t⟩ (.tuple #[]) w) := by
  refine (s.st.on ok).mono ?_
  rintro e w' ⟨rfl, s', t⟩
  exact ⟨rfl, ⟨s', s.own.kept t (fun h => h.2 (.inr rfl)), s.qB⟩, may_less t (fun i h => .inl h)⟩
theorem Dv.reset {B p f q k : Nat} {K : Nat → Prop} {d : DrvM} {w : World} (s : Dv B p f q k K d w) :
    Calls Try.prog 25 #[.pointer (some ⟨f, 0, none⟩)] w (DvOut B p f q k K ⟨fReset d.f, d.t⟩ (.tuple #[]) w) := by
  refine s.st.reset.mono ?_
  rintro e w' ⟨rfl, s', t⟩
  exact ⟨rfl, ⟨s', s.own.kept t (fun h => h.2 (.inr rfl)), s.qB⟩, may_less t (fun i h => .inl h)⟩
theorem dRead_len (d : DrvM) (a many : Int) : (dRead d a many).2.1.length ≤ 64 := by
  unfold dRead
  repeat' split
  all_goals first
    | exact Nat.zero_le _
    | (dsimp only; rw [List.length_take]; omega)

theorem rdg0 (r : Rh) (m : FlashM) (t : Int) : (rdCells r m t)[0]? = (rfCells r m)[0]? := by
  unfold rdCells
  rw [List.getElem?_append_left (by rw [rf_len]; omega)]
set_option maxRecDepth 100000 in
set_option maxHeartbeats 16000000 in
theorem driverActs_walk (a0 : Int) (b0 : (Lit.int .u8 a0).wf = true) (A : Option Addr) (n cap : Nat) (xs : List ActW) (w : World) (hr : ReadsW w A n cap xs) :
    Calls Try.prog 3 #[.int .u8 a0, .slice A n cap] w fun e w' => e = .returned (.bool true) ∧ Below w.heap.size w w' := by
  have c0 := bounds_u8 b0
  have hle := hr.le
  have hmx := hr.max
  unfold maxLen at hmx
  have HR := Lib.hid hr
  have hz := rd_zero
  have hz3 := rf_zero
  have e0 : 0 ≤ a0 % 5 := by omega
  have e1 : a0 % 5 ≤ 9223372036854775807 := by omega
  have CN := Lib.hid (newOk 3 (a0 % 5) (by omega) (by omega) e0 e1)
  clear b0 hr
  go_enter Try.func3, Try.ntmps3
  go_wp2_with fail
  refine (alive5_any w).mono ?_
  rintro e wa ⟨rfl, hBa⟩
  go_wp2_with fail
  refine (heavy_any A n cap xs wa (HR.out.kept hBa)).mono ?_
  rintro e wh ⟨b, rfl, hbf, hBh⟩
  have hB1 := hBa.trans (hBh.mono hBa.size)
  clear hBa hBh
  cases b
  · obtain ⟨hn50, hlight⟩ := hbf rfl
    have LI := Lib.hid hlight
    clear hbf hlight
    go_wp2_with fail
    refine (begin_st w.heap.size 3 (a0 % 5) wh hB1.size (by omega) (by omega) e0 e1).mono ?_
    rintro e w1 ⟨p, f, rfl, s0, t1⟩
    have q1 := hB1.trans t1
    clear hB1 t1
    go_wp2_with fail
    refine (dnew_any w.heap.size p f 3 _ w1 s0 CN.out).mono ?_
    rintro e w2 ⟨q, rfl, s1, t2⟩
    have q2 := q1.trans (t2.mono q1.size)
    clear q1 t2 s0
    have hnw := rnew_yes 3 (a0 % 5) w2 (by omega) (by omega) e0 e1
    obtain ⟨cc, hcc⟩ : ∃ cc, cc = mNew 3 (a0 % 5) := ⟨_, rfl⟩
    rw [← hcc] at s1 hnw CN
    have HNW := Lib.hid hnw
    have S1 := Lib.hid s1
    have Q2 := Lib.hid q2
    clear hcc hnw s1 q2
    go_wp2_with (first
      | (go_at_call 14; (refine HNW.out.mono ?_); rintro e w3 ⟨r, rfl, hc2, hb2, g1, g2⟩; have HC2 := Lib.hid hc2; have HB2 := Lib.hid hb2; have G1 := Lib.hid g1; have G2 := Lib.hid g2; clear hc2 hb2 g1 g2)
      | (with_reducible refine wpList_bld 39 (.tmp 36) rfl rfl (refVal r cc) _ rfl (built_flash r cc _) ?_)
      | (with_reducible refine wpList_bld 41 (.tmp 37) rfl rfl (.agg (rfCells r (fNew cc)).toArray) _ rfl (built_driver r (fNew cc) _) ?_)
      | ((refine wpList_sth (ty := 41) (xs := rdZero) (ys := rdCells r (fNew cc) 0) (post := []) _ _ rfl (by rfl) (by rfl) (by rfl) rd_size (At.news w3 _ rdZero) (List.append_nil _).symm rdZero_len (rd_len _ _ _) (rd_one _ _ _) ?_); intro w4 A4 T4; have A4' : Hid (At w4 w3.heap.size 41 (rdCells r (fNew cc) 0)) := Lib.hid (by simpa using A4); have T4' := Lib.hid T4; clear A4 T4))
    obtain ⟨M, hM⟩ : ∃ M, M = w3.heap.size := ⟨_, rfl⟩
    have ba : Below w2.heap.size w2 (w3.alloc (.cells rdZero.toArray 41)) := HB2.out.alloc HB2.out.size _
    have hs2 := HB2.out.size
    have b3 : Below w2.heap.size w2 w4 := ba.trans (T4'.out.below (fun i hi => by unfold Just at hi; omega) ba.size)
    have l3 : w3.heap.size < w4.heap.size := A4'.out.lt
    have hcW : RefAt w4 r cc := (HC2.out.below ((Below.refl _ w3).alloc (Nat.le_refl _) _)).otherT (At.news w3 41 rdZero) (by decide) (by decide) T4'.out
    have K0 : Dv w.heap.size p f q 3 (KX M r) ⟨fNew cc, 0⟩ w4 := S1.out.renew b3 (by
      rintro i (e | e | e)
      · rw [e]; exact ⟨.inr (by omega), by omega⟩
      · rw [e]; exact ⟨.inr G1.out, hcW.words.lt⟩
      · rw [e]; exact ⟨.inr G2.out, hcW.wear.lt⟩)
    have hMB : w.heap.size ≤ M := by have := Q2.out.size; omega
    have Z0 : ActedD w.heap.size p f q M w w4 r ⟨fNew cc, 0⟩ 0 := ⟨K0, by rw [hM]; exact A4'.out, hcW, ⟨CN.out, ⟨rfl, rfl, rfl⟩⟩, by simp, by simp, Q2.out.trans (b3.mono Q2.out.size), hMB⟩
    rw [← hM]
    have HMB := Lib.hid hMB
    clear hM hMB ba hs2 b3 l3 hcW K0 c0 e0 e1
    go_loopw [41] (fun i wr => ∃ j : Nat, ∃ d r, j ≤ n ∧ i = .int .i64 j ∧ ActedD w.heap.size p f q M w wr r d (30 * (j : Int))) (fun i _ => n - (intOf i).toNat)
    case atStart => exact ⟨0, _, r, by omega, rfl, by simpa using Z0⟩
    case round =>
      clear Z0
      obtain ⟨j, ⟨m, t⟩, r, hj, rfl, Z⟩ := hrel
      by_cases hlt : j < n
      · obtain ⟨ad, x, rfl, hxj, hx⟩ := (HR.out.kept Z.below).at_ hlt
        have LX := Lib.hid (LI.out j x hxj)
        have R0 : Hid (ReadsU w x.A x.n x.cap x.ws) := Lib.hid (by
          obtain ⟨_, x', _, hxj', hx'⟩ := HR.out.at_ hlt
          rw [hxj] at hxj'
          injection hxj' with hxj'
          rw [hxj']
          exact hx'.rd)
        have RX := Lib.hid hx.rd
        have b0 := hx.b0
        have b1 := hx.b1
        have b2 := hx.b2
        have x0 := hx.d0
        have x1 := hx.d1
        have x2 := hx.d2
        have x3 := hx.d3
        clear hx hxj
        have i0 : (0 : Int) ≤ (j : Int) := by omega
        have i1 : (j : Int) < (n : Int) := by omega
        obtain ⟨P, hP⟩ : ∃ P, P = wr.heap.size := ⟨_, rfl⟩
        obtain ⟨V, hV⟩ : ∃ V, V = wr.alloc (.cells [.int .u8 x.kind, .int .i64 x.at_, .int .i64 x.many, .slice x.A x.n x.cap].toArray 43) := ⟨_, rfl⟩
        have ba : Below wr.heap.size wr V := by rw [hV]; exact (Below.refl _ wr).alloc (Nat.le_refl _) _
        have hPV : At V P 43 [.int .u8 x.kind, .int .i64 x.at_, .int .i64 x.many, .slice x.A x.n x.cap] := by rw [hV, hP]; exact At.news wr _ _
        have ZV := Lib.hid (Z.on ba)
        have sP := Lib.hid (Z.dv.more ba P (by omega) hPV.lt)
        have RXV := Lib.hid (RX.out.kept ba)
        have HV := Lib.hid hV
        have HP := Lib.hid hP
        clear hV hP ba Z
        have HPV := Lib.hid hPV
        have y0 := hPV.cell 0
        have y1 := hPV.cell 1
        have y2 := hPV.cell 2
        have y3 := hPV.cell 3
        simp only [List.getElem?_cons_succ, List.getElem?_cons_zero] at y0 y1 y2 y3
        clear hPV
        go_upto_region 13 with fail
        change Code.wp _ _ _ _ (wr.alloc (.cells [.int .u8 x.kind, .int .i64 x.at_, .int .i64 x.many, .slice x.A x.n x.cap].toArray 43))
        rw [← HV.out]
        rw [← HP.out]
        go_upto_block 2 with fail
        have at0 : -1125899906842624 ≤ x.at_ := by have := LX.out.2.2; omega
        have at1 : x.at_ ≤ 1125899906842624 := by have := LX.out.2.1; omega
        have tj : t ≤ 30 * (j : Int) := ZV.out.t1
        have t0 : 0 ≤ t := ZV.out.t0
        have OK := Lib.hid ZV.out.ok
        have TJ := Lib.hid tj
        go_cut [11, 12] (fun s11 s12 wx => ∃ (e : Int) (d' : DrvM) (r' : Rh), s11 = .int .i64 e ∧ s12 = .int .i64 e ∧ ActedD w.heap.size p f q M w wx r' d' (30 * ((j + 1 : Nat) : Int)))
        case first =>
          by_cases k3 : x.kind % 8 = 3
          · have K3 : (x.kind % 8 == 3) = true := by rw [beq_iff_eq]; exact k3
            clear k3
            have RD := Lib.hid (fun W hW => rerase5_any r m t 3 x.at_ W OK.out hW at0 at1 t0 (by omega))
            have DT := Lib.hid (erase_ticks ⟨m, t⟩ x.at_)
            have DK := Lib.hid (erase_calm OK.out x.at_)
            go_wp2_with (first
              | (go_at_call 15; (with_reducible refine (sP.out.erase OK.out x.at_ at0 at1 t0 (by show t ≤ _; omega)).mono ?_); rintro e w5 ⟨rfl, s5, t5⟩; have S5 := Lib.hid s5; have TT := Lib.hid t5; have D5 := Lib.hid (ZV.out.act t5); have z1 := (HPV.out.kept t5 (fun e => e.2 (.inr rfl))).cell 1; simp only [List.getElem?_cons_succ, List.getElem?_cons_zero] at z1; clear s5 t5)
              | ((refine wpList_ldh (ty := 41) (xs := rdCells r m t) (post := []) _ rfl (by rfl) (by rfl) Try.underlying41 rfl rd_size D5.out.1 (List.append_nil _).symm (rd_len _ _ _) ?_))
              | (go_at_call 16; (refine (RD.out _ D5.out.2).mono ?_); rintro e w6 ⟨r6, rfl, hc6, hb6, hn6⟩; simp only [rdVal]; have HB6 := Lib.hid hb6; have HC6 := Lib.hid hc6; have HN6 := Lib.hid hn6; have D6 := Lib.hid (D5.out.1.kept (Turned.of_below hb6 (Nat.le_refl _) NoBlock) (fun h => h)); clear hb6 hc6 hn6)
              | ((refine wpList_sth (ty := 41) (xs := rdCells r m t) (ys := rdCells r6 (dErase ⟨m, t⟩ x.at_).1.f (dErase ⟨m, t⟩ x.at_).1.t) (post := []) _ _ rfl (by rfl) (by rfl) (by rfl) rd_size D6.out (List.append_nil _).symm (rd_len _ _ _) (rd_len _ _ _) (rd_one _ _ _) ?_); intro w7 A7 T7; have A7' : Hid (At w7 M 41 (rdCells r6 (dErase ⟨m, t⟩ x.at_).1.f (dErase ⟨m, t⟩ x.at_).1.t)) := Lib.hid (by simpa using A7); have T7' := Lib.hid T7; clear A7 T7))
            go_meet
            exact ⟨_, _, r6, rfl, rfl, ActedD.mk1 S5.out HB6.out HN6.out HC6.out D6.out A7'.out T7'.out DK.out (by have := DT.out.1; show 0 ≤ _; exact Int.le_trans t0 this) (by have h1 := DT.out.2; have h2 := TJ.out; omega) (ZV.out.below.trans (may_below TT.out ZV.out.dv.size)) HMB.out⟩
          have K3 : (x.kind % 8 == 3) = false := by rw [beq_eq_false_iff_ne]; exact k3
          by_cases k4 : x.kind % 8 = 4
          · have K4 : (x.kind % 8 == 4) = true := by rw [beq_iff_eq]; exact k4
            clear k3 k4
            have RD := Lib.hid (fun W hW => rread5_any r m t 3 x.at_ x.many W OK.out hW)
            have PR := Lib.hid (sP.out.readN OK.out x.at_ x.many at0 at1 b2.1 b2.2)
            have DT := Lib.hid (read_ticks ⟨m, t⟩ x.at_ x.many)
            have DK := Lib.hid (read_calm OK.out x.at_ x.many)
            have DL := Lib.hid (dRead_len ⟨m, t⟩ x.at_ x.many)
            obtain ⟨y, hy⟩ : ∃ y, y = dRead ⟨m, t⟩ x.at_ x.many := ⟨_, rfl⟩
            rw [← hy] at RD PR DT DK DL
            clear hy
            have VM : Hid (M < V.heap.size) := Lib.hid ZV.out.own.lt
            go_wp2_with (first
              | (go_at_call 17; (with_reducible refine PR.out.mono ?_); rintro e w5 ⟨A5, c5, rfl, r5, z5, s5, t5, n5⟩; have S5 := Lib.hid s5; have TT := Lib.hid t5; have D5 := Lib.hid (ZV.out.act t5); have R5 := Lib.hid r5; have N5 := Lib.hid n5; have hP5 := HPV.out.kept t5 (fun e => e.2 (.inr rfl)); have z1 := hP5.cell 1; have z2 := hP5.cell 2; simp only [List.getElem?_cons_succ, List.getElem?_cons_zero] at z1 z2; clear r5 z5 s5 t5 n5 hP5)
              | ((refine wpList_ldh (ty := 41) (xs := rdCells r m t) (post := []) _ rfl (by rfl) (by rfl) Try.underlying41 rfl rd_size D5.out.1 (List.append_nil _).symm (rd_len _ _ _) ?_))
              | (go_at_call 18; (refine (RD.out _ D5.out.2).mono ?_); rintro e w6 ⟨A6, c6, rfl, r6, hc6, hb6, n6⟩; simp only [rdVal]; have HB6 := Lib.hid hb6; have HC6 := Lib.hid hc6; have R6 := Lib.hid r6; have N6 := Lib.hid n6; have D6 := Lib.hid (D5.out.1.kept (Turned.of_below hb6 (Nat.le_refl _) NoBlock) (fun h => h)); clear hb6 hc6 r6 n6)
              | ((refine wpList_sth (ty := 41) (xs := rdZero) (ys := rdCells r y.1.f y.1.t) (post := []) _ _ rfl (by rfl) (by rfl) (by rfl) rd_size (At.news w6 _ rdZero) (List.append_nil _).symm rdZero_len (rd_len _ _ _) (rd_one _ _ _) ?_); intro w7 A7 T7; have A7' : Hid (At w7 w6.heap.size 41 (rdCells r y.1.f y.1.t)) := Lib.hid (by simpa using A7); have hb7 : Below w6.heap.size w6 w7 := ((Below.refl _ w6).alloc (Nat.le_refl _) _).trans (T7.below (fun i hi => by unfold Just at hi; omega) (by rw [World.size_alloc]; omega)); have HB7 := Lib.hid hb7; have D7 := Lib.hid (D6.out.kept (Turned.of_below hb7 (Nat.le_refl _) NoBlock) (fun h => h)); clear A7 T7 hb7)
              | ((refine wpList_ldh (ty := 41) (xs := rdCells r y.1.f y.1.t) (post := []) _ rfl (by rfl) (by rfl) Try.underlying41 rfl rd_size A7'.out (List.append_nil _).symm (rd_len _ _ _) ?_))
              | ((refine wpList_sth (ty := 41) (xs := rdCells r m t) (ys := rdCells r y.1.f y.1.t) (post := []) _ _ rfl (by rfl) (by rfl) (by rfl) rd_size D7.out (List.append_nil _).symm (rd_len _ _ _) (rd_len _ _ _) (rd_one _ _ _) ?_); intro w8 A8 T8; have A8' : Hid (At w8 M 41 (rdCells r y.1.f y.1.t)) := Lib.hid (by simpa using A8); have T8' := Lib.hid T8; have hs5 := TT.out.size; have hv := VM.out; have B57 := Lib.hid (HB6.out.trans (HB7.out.mono HB6.out.size)); have RA := Lib.hid ((R5.out.kept B57.out).act T8 (fun a e h => by have := N5.out a e; unfold Just at h; omega)); have RB := Lib.hid ((R6.out.kept HB7.out).act T8 (fun a e h => by have := N6.out a e; unfold Just at h; omega)); clear A8 T8 hs5 hv)
              | (go_at_call 19; (refine (same_words _ _ _ _ _ _ _ RA.out RB.out (by have := DL.out; omega)).mono ?_); rintro e w9 ⟨rfl, mm, rfl⟩))
            go_meet
            exact ⟨_, y.1, r, rfl, rfl, (ActedD.mk1 (S5.out.less (fun i h => .inl h)) B57.out (RefNew.refl _ _) (HC6.out.below HB7.out) D7.out A8'.out T8'.out DK.out (by rw [DT.out]; exact t0) (by rw [DT.out]; have h2 := TJ.out; show t ≤ _; omega) (ZV.out.below.trans (may_below TT.out ZV.out.dv.size)) HMB.out).on (below_drewN _ _ _)⟩
          have K4 : (x.kind % 8 == 4) = false := by rw [beq_eq_false_iff_ne]; exact k4
          by_cases k5 : x.kind % 8 = 5
          · have K5 : (x.kind % 8 == 5) = true := by rw [beq_iff_eq]; exact k5
            clear k3 k4 k5
            have RD := Lib.hid (fun on W hW => rlock5_any r m t 3 x.at_ on W OK.out hW at0 at1 t0 (by omega))
            have DT := Lib.hid (fun on => lock_ticks ⟨m, t⟩ x.at_ on)
            have DK := Lib.hid (fun on => lock_calm OK.out x.at_ on)
            go_wp2_with (first
              | (go_at_call 20; (with_reducible refine (sP.out.lock OK.out x.at_ _ at0 at1).mono ?_); rintro e w5 ⟨rfl, s5, t5⟩; have S5 := Lib.hid s5; have TT := Lib.hid t5; have D5 := Lib.hid (ZV.out.act t5); have hP5 := HPV.out.kept t5 (fun e => e.2 (.inr rfl)); have z1 := hP5.cell 1; have z2 := hP5.cell 2; simp only [List.getElem?_cons_succ, List.getElem?_cons_zero] at z1 z2; clear s5 t5 hP5)
              | ((refine wpList_ldh (ty := 41) (xs := rdCells r m t) (post := []) _ rfl (by rfl) (by rfl) Try.underlying41 rfl rd_size D5.out.1 (List.append_nil _).symm (rd_len _ _ _) ?_))
              | (go_at_call 21; (refine (RD.out _ _ D5.out.2).mono ?_); rintro e w6 ⟨r6, rfl, hc6, hb6, hn6⟩; simp only [rdVal]; have HB6 := Lib.hid hb6; have HC6 := Lib.hid hc6; have HN6 := Lib.hid hn6; have D6 := Lib.hid (D5.out.1.kept (Turned.of_below hb6 (Nat.le_refl _) NoBlock) (fun h => h)); clear hb6 hc6 hn6)
              | ((refine wpList_sth (ty := 41) (xs := rdCells r m t) (ys := rdCells r6 (dLock ⟨m, t⟩ x.at_ _).1.f (dLock ⟨m, t⟩ x.at_ _).1.t) (post := []) _ _ rfl (by rfl) (by rfl) (by rfl) rd_size D6.out (List.append_nil _).symm (rd_len _ _ _) (rd_len _ _ _) (rd_one _ _ _) ?_); intro w7 A7 T7; have A7' := Lib.hid A7; have T7' := Lib.hid T7; clear A7 T7))
            go_meet
            exact ⟨_, _, r6, rfl, rfl, ActedD.mk1 S5.out HB6.out HN6.out HC6.out D6.out (by simpa using A7'.out) T7'.out (DK.out _) (by rw [DT.out]; exact t0) (by rw [DT.out]; have h2 := TJ.out; show t ≤ _; omega) (ZV.out.below.trans (may_below TT.out ZV.out.dv.size)) HMB.out⟩
          have K5 : (x.kind % 8 == 5) = false := by rw [beq_eq_false_iff_ne]; exact k5
          by_cases k6 : x.kind % 8 = 6
          · have K6 : (x.kind % 8 == 6) = true := by rw [beq_iff_eq]; exact k6
            clear k3 k4 k5 k6
            obtain ⟨vv, hv⟩ : ∃ vv : BitVec 32, IntKind.u32.wrap x.at_ = U vv := ⟨BitVec.ofInt 32 x.at_, by
              rw [IntKind.wrap_u32]
              unfold U
              rw [BitVec.toNat_ofInt]
              omega⟩
            have PF := Lib.hid (sP.out.fuseD OK.out x.many vv)
            have RF := Lib.hid (fun W => rfuse_any r m.chip x.many vv W (by have h0 : 0 < m.chip.ws.length := OK.out.ok.len0; omega))
            have OK1 := Lib.hid (OK.out.ok.chipTo _ (OK.out.ok.chip.fuse x.many vv b2.2))
            go_wp2_with (first
              | (go_at_call 22; (with_reducible refine PF.out.mono ?_); rintro e w5 ⟨rfl, s5, t5⟩; have S5 := Lib.hid s5; have TT := Lib.hid t5; have D5 := Lib.hid (ZV.out.act t5); have hP5 := HPV.out.kept t5 (fun e => e.2 (.inr rfl)); have z1 := hP5.cell 1; have z2 := hP5.cell 2; simp only [List.getElem?_cons_succ, List.getElem?_cons_zero] at z1 z2; clear s5 t5 hP5)
              | ((refine wpList_ldh (ty := 35) (xs := refCells r m.chip) (post := dcT m t) _ rfl (by rfl) (by rfl) Try.underlying35 rfl ref_size D5.out.1 (rd_split _ _ _) (ref_len _ _) ?_))
              | (go_at_call 23; (refine (RF.out _).mono ?_); rintro e w6 ⟨rfl, hb6⟩; have HB6 := Lib.hid hb6; have D6 := Lib.hid (D5.out.1.kept (Turned.of_below hb6 (Nat.le_refl _) NoBlock) (fun h => h)); clear hb6)
              | ((refine wpList_sth (ty := 35) (xs := refCells r m.chip) (ys := refCells r (mFuse m.chip x.many vv)) (post := dcT m t) _ _ rfl (by rfl) (by rfl) (by rfl) ref_size D6.out (rd_split _ _ _) (ref_len _ _) (ref_len _ _) (ref_one6 _ _) ?_); intro w7 A7 T7; have A7' : Hid (At w7 M 41 (rdCells r { m with chip := mFuse m.chip x.many vv } t)) := Lib.hid (A7.as (rd_split r { m with chip := mFuse m.chip x.many vv } t).symm); have T7' := Lib.hid T7; clear A7 T7))
            go_meet
            exact ⟨_, ⟨{ m with chip := mFuse m.chip x.many vv }, t⟩, r, rfl, rfl, ActedD.mk1 S5.out HB6.out (RefNew.refl _ _) (ref_sameD (D5.out.2.below HB6.out) rfl rfl) D6.out A7'.out T7'.out ⟨OK1.out, ⟨OK.out.calm.job, OK.out.calm.wait, OK.out.calm.errors⟩⟩ t0 (by have h2 := TJ.out; show t ≤ _; omega) (ZV.out.below.trans (may_below TT.out ZV.out.dv.size)) HMB.out⟩
          have K6 : (x.kind % 8 == 6) = false := by rw [beq_eq_false_iff_ne]; exact k6
          by_cases k7 : x.kind % 8 = 7
          · have K7 : (x.kind % 8 == 7) = true := by rw [beq_iff_eq]; exact k7
            clear k3 k4 k5 k6 k7
            have PO := Lib.hid (sP.out.on OK.out.ok)
            have RO := Lib.hid (fun W => ron_any r m.chip W)
            have OK1 := Lib.hid ((OK.out.ok.chipTo _ OK.out.ok.chip.on).reset)
            have RS := Lib.hid (fun W => rreset_any r { m with chip := mOn m.chip } W)
            go_wp2_with (first
              | (go_at_call 24; (with_reducible refine PO.out.mono ?_); rintro e w4 ⟨rfl, s4, t4⟩; have S4 := Lib.hid s4; have T4 := Lib.hid t4; clear s4 t4)
              | (go_at_call 25; (with_reducible refine S4.out.reset.mono ?_); rintro e w5 ⟨rfl, s5, t5⟩; have S5 := Lib.hid s5; have TT := Lib.hid (T4.out.trans t5); have D5 := Lib.hid (ZV.out.act (T4.out.trans t5)); clear s5 t5)
              | ((refine wpList_ldh (ty := 35) (xs := refCells r m.chip) (post := dcT m t) _ rfl (by rfl) (by rfl) Try.underlying35 rfl ref_size D5.out.1 (rd_split _ _ _) (ref_len _ _) ?_))
              | (go_at_call 26; (refine (RO.out _).mono ?_); rintro e w6 ⟨rfl, hb6⟩; have HB6 := Lib.hid hb6; have D6 := Lib.hid (D5.out.1.kept (Turned.of_below hb6 (Nat.le_refl _) NoBlock) (fun h => h)); clear hb6)
              | ((refine wpList_sth (ty := 35) (xs := refCells r m.chip) (ys := refCells r (mOn m.chip)) (post := dcT m t) _ _ rfl (by rfl) (by rfl) (by rfl) ref_size D6.out (rd_split _ _ _) (ref_len _ _) (ref_len _ _) (ref_one6 _ _) ?_); intro w7 A7 T7; have A7' : Hid (At w7 M 41 (rfCells r { m with chip := mOn m.chip } ++ [.int .i64 t])) := Lib.hid (A7.as (rd_split r { m with chip := mOn m.chip } t).symm); have T7' := Lib.hid T7; clear A7 T7)
              | ((refine wpList_ldh (ty := 39) (xs := rfCells r { m with chip := mOn m.chip }) (post := [.int .i64 t]) _ rfl (by rfl) (by rfl) Try.underlying39 rfl rf_size A7'.out rfl (rf_len _ _) ?_))
              | (go_at_call 27; (refine (RS.out _).mono ?_); rintro e w8 ⟨rfl, hb8⟩; simp only [rfVal]; have HB8 := Lib.hid hb8; have A8 := Lib.hid (A7'.out.kept (Turned.of_below hb8 (Nat.le_refl _) NoBlock) (fun h => h)); clear hb8)
              | ((refine wpList_sth (ty := 39) (xs := rfCells r { m with chip := mOn m.chip }) (ys := rfCells r (fReset { m with chip := mOn m.chip })) (post := [.int .i64 t]) _ _ rfl (by rfl) (by rfl) (by rfl) rf_size A8.out rfl (rf_len _ _) (rf_len _ _) (rf_one _ _) ?_); intro w9 A9 T9; have A9' := Lib.hid A9; have T9' := Lib.hid T9; clear A9 T9))
            go_meet
            exact ⟨_, ⟨fReset { m with chip := mOn m.chip }, t⟩, r, rfl, rfl, ActedD.mk6 (c0 := m.chip) S5.out HB6.out (D5.out.2.below HB6.out) D6.out A7'.out T7'.out HB8.out A9'.out T9'.out rfl rfl ⟨OK1.out, ⟨rfl, rfl, rfl⟩⟩ t0 (by have h2 := TJ.out; show t ≤ _; omega) (ZV.out.below.trans (may_below TT.out ZV.out.dv.size)) HMB.out⟩
          have K7 : (x.kind % 8 == 7) = false := by rw [beq_eq_false_iff_ne]; exact k7
          clear k3 k4 k5 k6 k7
          have hn10 : x.n ≤ 1000 := by have := LX.out.1; omega
          have hwl : x.ws.length ≤ 10 := by have := LX.out.1; have := R0.out.len; omega
          have RV := Lib.hid (R0.out.kept ZV.out.below)
          have RD := Lib.hid (fun W hW hR => rprogram5_any r m t 3 x.at_ x.A x.n x.cap x.ws W OK.out hW hR hn10 at0 at1 t0 (by omega))
          have DT := Lib.hid (program_ticks x.ws ⟨m, t⟩ x.at_)
          have DK := Lib.hid (program_calm x.ws x.at_ OK.out)
          have NM : Hid (0 < x.n → ∀ g, x.A = some g → ¬ May w.heap.size (fun i => KX M r i ∨ i = P) g.block) := Lib.hid (fun hn g eg => by
            obtain ⟨ad, e1, hl1, _⟩ := R0.out.cell hn
            rw [e1] at eg
            injection eg with eg
            rw [← eg]
            intro hm
            have := hm.1
            omega)
          go_wp2_with (first
            | (go_at_call 28; (with_reducible refine (sP.out.program OK.out x.at_ x.A x.n x.cap x.ws RV.out hn10 at0 at1 t0 (by show t ≤ _; omega) NM.out).mono ?_); rintro e w5 ⟨rfl, s5, t5⟩; have S5 := Lib.hid s5; have TT := Lib.hid t5; have D5 := Lib.hid (ZV.out.act t5); have R5 := Lib.hid (R0.out.kept (ZV.out.below.trans (may_below t5 ZV.out.dv.size))); have hP5 := HPV.out.kept t5 (fun e => e.2 (.inr rfl)); have z1 := hP5.cell 1; have z3 := hP5.cell 3; simp only [List.getElem?_cons_succ, List.getElem?_cons_zero] at z1 z3; clear s5 t5 hP5)
            | ((refine wpList_ldh (ty := 41) (xs := rdCells r m t) (post := []) _ rfl (by rfl) (by rfl) Try.underlying41 rfl rd_size D5.out.1 (List.append_nil _).symm (rd_len _ _ _) ?_))
            | (go_at_call 29; (refine (RD.out _ D5.out.2 R5.out).mono ?_); rintro e w6 ⟨r6, rfl, hc6, hb6, hn6⟩; simp only [rdVal]; have HB6 := Lib.hid hb6; have HC6 := Lib.hid hc6; have HN6 := Lib.hid hn6; have D6 := Lib.hid (D5.out.1.kept (Turned.of_below hb6 (Nat.le_refl _) NoBlock) (fun h => h)); clear hb6 hc6 hn6)
            | ((refine wpList_sth (ty := 41) (xs := rdCells r m t) (ys := rdCells r6 (dProgram ⟨m, t⟩ x.at_ x.ws).1.f (dProgram ⟨m, t⟩ x.at_ x.ws).1.t) (post := []) _ _ rfl (by rfl) (by rfl) (by rfl) rd_size D6.out (List.append_nil _).symm (rd_len _ _ _) (rd_len _ _ _) (rd_one _ _ _) ?_); intro w7 A7 T7; have A7' := Lib.hid A7; have T7' := Lib.hid T7; clear A7 T7))
          go_meet
          exact ⟨_, _, r6, rfl, rfl, ActedD.mk1 S5.out HB6.out HN6.out HC6.out D6.out (by simpa using A7'.out) T7'.out DK.out (by have := DT.out.1; show 0 ≤ _; exact Int.le_trans t0 this) (by have h1 := DT.out.2; have h2 := TJ.out; omega) (ZV.out.below.trans (may_below TT.out ZV.out.dv.size)) HMB.out⟩
        case rest =>
          obtain ⟨e, ⟨m', t'⟩, r', rfl, rfl, Z'⟩ := hcut
          have ZD := Lib.hid (Z'.on ((Below.refl _ wc).drew))
          have OK' := Lib.hid Z'.ok
          clear Z' HR LI R0 RX ZV RXV OK sP y0 y1 y2 y3 x0 x1 x2 x3 b0 b1 b2 HV HP HPV TJ at0 at1 tj t0 CN
          have CT := Lib.hid ZD.out.dv.ticks0
          have CW := Lib.hid (ZD.out.dv.st.st.words OK'.out.ok)
          have g77 := ZD.out.own.cell 77
          have g00 := ZD.out.own.cell 0
          rw [rdg0] at g00
          simp only [rdg77, rfg0] at g77 g00
          have e0 : (e != e) = false := bne_self_eq_false e
          have LN : Hid (m'.chip.ws.length ≤ 1000000) := Lib.hid (by have : m'.chip.ws.length ≤ 4096 := OK'.out.ok.len; omega)
          go_wp2
          go_region_held3 (fun w' => w'.cell? ⟨M, 77, none⟩ = some (.int .i64 t') ∧ w'.cell? ⟨M, 0, none⟩ = some (.slice (some ⟨r'.gw, 0, none⟩) m'.chip.ws.length r'.cw)) (go_keep) (first
            | (go_at_call 30; (refine CT.out.mono ?_); rintro e w1 ⟨rfl, rfl⟩)
            | (go_at_call 31; (refine CW.out.mono ?_); rintro e w3 ⟨g, cg, rest, rfl, hA3, hl3, hm3, hg3, hb3⟩; have Z3 := Lib.hid (ZD.out.on hb3); have i77 := Z3.out.own.cell 77; have i0 := Z3.out.own.cell 0; rw [rdg0] at i0; simp only [rdg77, rfg0] at i77 i0; rw [Us_length]; have RA := Lib.hid (ReadsU.of_at hA3 hl3 hm3); have RB := Lib.hid (ReadsU.of_at Z3.out.chip.words Z3.out.chip.wl Z3.out.chip.wm); clear hA3 hl3 hm3 hg3 hb3)
            | (go_at_call 19; (refine (same_words _ _ _ _ _ _ _ RA.out RB.out LN.out).mono ?_); rintro e w4 ⟨rfl, mm, rfl⟩))
          have ZW := Lib.hid (Z3.out.on (below_drewN w3.heap.size w3 mm))
          obtain ⟨W, hW⟩ : ∃ W, W = w3.drewN mm := ⟨_, rfl⟩
          rw [← hW]
          rw [← hW] at ZW
          clear hW g77 g00 i0 i77
          go_wp2
          go_roundw
          case rel => exact ⟨j + 1, ⟨m', t'⟩, r', by omega, by go_num, ZW.out⟩
          case measure => simp [intOf]; omega
      · obtain rfl : j = n := by omega
        have ZB := Lib.hid Z.below
        clear Z
        go_wp2
        go_ret
        exact ⟨rfl, ZB.out⟩
  · go_wp2
    go_ret
    exact ⟨rfl, hB1⟩
end Go.Proofs.Ytfckgfimmoinmaa
