/- The program's device of layer sector: a command. -/
import Derived.Test.YtpkkejdjhnmjiaaPd3
namespace Go.Proofs.Ytpkkejdjhnmjiaa
open Go.RowKit Bm

/-- What the register Error tells of an error of the disk. -/
def fB (e : Int) : BitVec 32 := if e = 9 then 3#32 else if e = 4 then 4#32 else 5#32
/-- n sectors of command v, from the one of index j on, up to the first error. -/
def pMoves {α : Type} (D : Dk10 α) (v : Int) : Nat → DvM → α → Nat → DvM × α × BitVec 32
  | 0, d, a, _ => (d, a, 0#32)
  | n + 1, d, a, j => if (pMove D v d a (d.first.toNat + j) j).2.2 = 0 then pMoves D v n (pMove D v d a (d.first.toNat + j) j).1 (pMove D v d a (d.first.toNat + j) j).2.1 (j + 1) else ((pMove D v d a (d.first.toNat + j) j).1, (pMove D v d a (d.first.toNat + j) j).2.1, fB (pMove D v d a (d.first.toNat + j) j).2.2)
def pFar (n : Nat) (d : DvM) : Prop := U d.many < 1 ∨ 4 < U d.many ∨ (n : Int) < U d.first + U d.many
instance (n : Nat) (d : DvM) : Decidable (pFar n d) := inferInstanceAs (Decidable (_ ∨ _ ∨ _))
def pTrans {α : Type} (D : Dk10 α) (v : Int) (d : DvM) (a : α) : DvM × α × BitVec 32 := if pFar (D.len a) d then (d, a, 2#32) else pMoves D v d.many.toNat d a 0
def pCmd {α : Type} (D : Dk10 α) (v : Int) (d : DvM) (a : α) : DvM × α :=
  if v = 1 ∨ v = 2 ∨ v = 3 then ({ (pTrans D v (dCalm d) a).1 with err := (pTrans D v (dCalm d) a).2.2 }, (pTrans D v (dCalm d) a).2.1)
  else if v = 4 then (dCalm d, a) else ({ dCalm d with err := 1#32 }, a)
section
variable {α : Type} {D : Dk10 α} {q : Nat} {K K' S : Nat → Prop} {d d' : DvM} {a : α} {w w' : World}
theorem pMove_same (v : Int) (d : DvM) (a : α) (s j : Nat) : (pMove D v d a s j).1.first = d.first ∧ (pMove D v d a s j).1.many = d.many ∧ (pMove D v d a s j).1.line = d.line ∧ (pMove D v d a s j).1.place = d.place ∧ (pMove D v d a s j).1.buf.length = d.buf.length ∧ (pMove D v d a s j).1.disk = d.disk := by
  unfold pMove
  split
  · dsimp only
    split
    · exact ⟨rfl, rfl, rfl, rfl, putW_len _ _ _ _, rfl⟩
    · exact ⟨rfl, rfl, rfl, rfl, rfl, rfl⟩
  split
  · exact ⟨rfl, rfl, rfl, rfl, rfl, rfl⟩
  · exact ⟨rfl, rfl, rfl, rfl, rfl, rfl⟩
theorem pMove_len (hD : D.Is) (v : Int) (d : DvM) (a : α) (s j : Nat) : D.len (pMove D v d a s j).2.1 = D.len a := by
  unfold pMove
  split
  · exact hD.lr _ _
  split
  · exact hD.lw _ _ _
  · exact hD.lt _ _
theorem pMove_room (hD : D.Is) (v : Int) (d : DvM) (a : α) (s j n : Nat) (h : D.room a (n + 1)) : D.room (pMove D v d a s j).2.1 n := by
  unfold pMove
  split
  · exact hD.rr _ _ _ h
  split
  · exact hD.rw _ _ _ _ h
  · exact hD.rt _ _ _ h
theorem fault10_b (e : Int) (w : World) : Calls Try.prog 29 #[.int .i64 e] w fun r w' => r = .returned (.int .u32 (U (fB e))) ∧ w' = w := by
  refine (fault10 e w).mono ?_
  rintro r w' ⟨rfl, rfl⟩
  refine ⟨?_, rfl⟩
  unfold fB
  by_cases h1 : e = 9
  · rw [if_pos h1, if_pos h1]; rfl
  rw [if_neg h1, if_neg h1]
  by_cases h2 : e = 4
  · rw [if_pos h2, if_pos h2]; rfl
  · rw [if_neg h2, if_neg h2]; rfl
set_option maxRecDepth 100000 in
set_option maxHeartbeats 2000000 in
theorem trans10 (h : PdAt D q K d a w) (hD : D.Is) (hr : D.room a 4) (v : BitVec 32) (hv : U v = 1 ∨ U v = 2 ∨ U v = 3) :
    Calls Try.prog 24 #[.pointer (some ⟨q, 0, none⟩), .int .u32 (U v)] w fun e w' => e = .returned (.int .u32 (U (pTrans D (U v) d a).2.2)) ∧ PdAt D q K (pTrans D (U v) d a).1 (pTrans D (U v) d a).2.1 w' ∧ Turned (Un10 D.B K) w w' := by
  obtain ⟨_, c1, c2, _, _, _⟩ := pd_cells h
  have HN := Lib.hid (hD.few h.dk)
  have HP := Lib.hid h
  have HD := Lib.hid hD
  have HRM := Lib.hid hr
  have HV := Lib.hid hv
  have hF0 := U_nonneg d.first
  have hF1 := U_lt d.first
  have hM0 := U_nonneg d.many
  have hM1 := U_lt d.many
  obtain ⟨M, hM⟩ : ∃ M : Int, M = U d.many := ⟨_, rfl⟩
  obtain ⟨F, hF⟩ : ∃ F : Int, F = U d.first := ⟨_, rfl⟩
  obtain ⟨V, hV⟩ : ∃ V : Int, V = U v := ⟨_, rfl⟩
  rw [← hM] at hM0 hM1 c2
  rw [← hF] at hF0 hF1 c1
  have HS : Hid (∀ n, Calls Try.prog 26 #[.pointer (some ⟨q, 0, none⟩)] (w.drewN n) fun e w' => e = .returned (.int .u32 (D.len a)) ∧ w' = w.drewN n) := Lib.hid fun n => by
    have := size10 (h.drewN hD n) hD
    rw [U_small (hD.few h.dk)] at this
    exact this
  have HMF := Lib.hid (show M = U d.many ∧ F = U d.first ∧ V = U v from ⟨hM, hF, hV⟩)
  have FAR : Hid (pFar (D.len a) d → pTrans D (U v) d a = (d, a, 2#32)) := Lib.hid fun h => by unfold pTrans; rw [if_pos h]
  rw [← hV]
  have hw1 : IntKind.u64.wrap F = F := by
    show F % 18446744073709551616 = F
    omega
  obtain ⟨R, hR⟩ : ∃ R, R = pTrans D V d a := ⟨_, rfl⟩
  rw [← hR]
  have HR := Lib.hid hR
  clear hM hF hV h hD hr hv hR
  go_enter Try.func24, Try.ntmps24
  go_upto_region 2 with (go_quiet (fail))
  have PQ := Lib.hid (HP.out.drewN HD.out nq)
  have TQ : Hid (Turned (Un10 D.B K) w (w.drewN nq)) := Lib.hid ((Turned.refl _ w).drewN nq)
  by_cases m0 : M < 1
  · obtain rfl : M = 0 := by omega
    have he : pTrans D V d a = (d, a, 2#32) := by rw [HMF.out.2.2]; exact FAR.out (.inl (by rw [← HMF.out.1]; omega))
    have HE := Lib.hid (HR.out.trans he)
    clear he
    go_wp2
    go_ret
    rw [HE.out]
    exact ⟨rfl, PQ.out, TQ.out⟩
  by_cases m4 : 4 < M
  · have he : pTrans D V d a = (d, a, 2#32) := by rw [HMF.out.2.2]; exact FAR.out (.inr (.inl (by rw [← HMF.out.1]; omega)))
    have HE := Lib.hid (HR.out.trans he)
    have e0 : (M == 0) = false := by rw [beq_eq_false_iff_ne]; omega
    clear he
    go_wp2
    go_ret
    rw [HE.out]
    exact ⟨rfl, PQ.out, TQ.out⟩
  have e0 : (M == 0) = false := by rw [beq_eq_false_iff_ne]; omega
  have m4' : M ≤ 4 := by omega
  have hw2 : IntKind.u64.wrap M = M := by
    show M % 18446744073709551616 = M
    omega
  have hw3 : IntKind.u64.wrap (F + M) = F + M := by
    show (F + M) % 18446744073709551616 = F + M
    omega
  have hw4 : IntKind.u64.wrap (D.len a : Int) = D.len a := by
    have := HN.out
    show (D.len a : Int) % 18446744073709551616 = D.len a
    omega
  by_cases hfar : (D.len a : Int) < F + M
  · have he : pTrans D V d a = (d, a, 2#32) := by rw [HMF.out.2.2]; exact FAR.out (.inr (.inr (by rw [← HMF.out.1, ← HMF.out.2.1]; exact hfar)))
    have HE := Lib.hid (HR.out.trans he)
    clear he
    go_wp2_with (go_at_call 26; (with_reducible refine (HS.out nq).mono ?_); rintro e w1 ⟨rfl, hw⟩; obtain rfl := hw.symm)
    go_ret
    rw [HE.out]
    exact ⟨rfl, PQ.out, TQ.out⟩
  have he : pTrans D V d a = pMoves D V d.many.toNat d a 0 := by
    unfold pTrans
    rw [if_neg]
    unfold pFar
    rw [← HMF.out.1, ← HMF.out.2.1]
    omega
  obtain ⟨m, hm⟩ : ∃ m : Nat, m = d.many.toNat := ⟨_, rfl⟩
  rw [← hm] at he
  have HE := Lib.hid (HR.out.trans he)
  clear he HR
  have HMM : Hid (M = (m : Int)) := Lib.hid (by rw [HMF.out.1, hm]; rfl)
  clear hm
  go_upto_region 3 with (go_at_call 26; (with_reducible refine (HS.out nq).mono ?_); rintro e w1 ⟨rfl, hw⟩; obtain rfl := hw.symm)
  have HRM4 : Hid (D.room a (4 - 0)) := HRM
  clear HS FAR hw1 hw2 hw3 hw4 c1 c2
  go_loopw [35] (fun i wr => ∃ (j : Nat) (d' : DvM) (a' : α), j ≤ m ∧ i = .int .u32 j ∧ PdAt D q K d' a' wr ∧ Turned (Un10 D.B K) w wr ∧ d'.first = d.first ∧ D.len a' = D.len a ∧ D.room a' (4 - j) ∧ R = pMoves D V (m - j) d' a' j) (fun i _ => m - (intOf i).toNat)
  case atStart => exact ⟨0, d, a, Nat.zero_le _, rfl, PQ.out, TQ.out, rfl, rfl, HRM4.out, HE.out⟩
  case round =>
    obtain ⟨j, d', a', hj, rfl, hp, ht, hdf, hdl, hdr, hre⟩ := hrel
    have HPj := Lib.hid hp
    have HTj := Lib.hid ht
    have HFj := Lib.hid hdf
    have HLj := Lib.hid hdl
    have HRj := Lib.hid hdr
    have HEj := Lib.hid hre
    clear hp ht hdf hdl hdr hre PQ TQ HE
    have hm4 : m ≤ 4 := by have := HMM.out; omega
    by_cases hlt : j < m
    · have hlt' : (j : Int) < M := by have := HMM.out; omega
      obtain ⟨s, hs⟩ : ∃ s : Nat, s = d'.first.toNat + j := ⟨_, rfl⟩
      have hsF : F + (j : Int) = (s : Int) := by
        rw [hs, HFj.out, HMF.out.2.1]
        unfold U
        omega
      have hsl : s < D.len a' := by rw [HLj.out]; omega
      obtain ⟨n, hn⟩ : ∃ n, m - j = n + 1 := ⟨m - j - 1, by omega⟩
      have hu : F + (j : Int) < 4294967296 := by have := HN.out; omega
      have hu0 : 0 ≤ F + (j : Int) := by omega
      have j4 : (j : Int) < 4 := by omega
      have HMV : Hid (Calls Try.prog 28 #[.pointer (some ⟨q, 0, none⟩), .int .u32 V, .int .i64 (F + (j : Int)), .pointer (some ⟨q, 5 + j * 4, none⟩)] wr fun e w' => e = .returned (.int .i64 (pMove D V d' a' s j).2.2) ∧ PdAt D q K (pMove D V d' a' s j).1 (pMove D V d' a' s j).2.1 w' ∧ Turned (Un10 D.B K) wr w') := Lib.hid (by
        have h := move10 HPj.out HD.out (HD.out.le a' 1 (4 - j - 1) (by rw [show 1 + (4 - j - 1) = 4 - j by omega]; exact HRj.out)) v HV.out s j hsl (by omega)
        rw [hsF, show 5 + j * 4 = 5 + 4 * j by omega, HMF.out.2.2]
        exact h)
      have hstep : R = if (pMove D V d' a' s j).2.2 = 0 then pMoves D V n (pMove D V d' a' s j).1 (pMove D V d' a' s j).2.1 (j + 1) else ((pMove D V d' a' s j).1, (pMove D V d' a' s j).2.1, fB (pMove D V d' a' s j).2.2) := by
        rw [HEj.out, hn, hs]
        rfl
      have hsame := pMove_same (D := D) V d' a' s j
      have hlen := pMove_len HD.out V d' a' s j
      have hroom := pMove_room HD.out V d' a' s j (4 - (j + 1)) (by rw [show 4 - (j + 1) + 1 = 4 - j by omega]; exact HRj.out)
      obtain ⟨r, hr⟩ : ∃ r, r = pMove D V d' a' s j := ⟨_, rfl⟩
      rw [← hr] at HMV hstep hsame hlen hroom
      obtain ⟨d1, a1, er⟩ := r
      dsimp only at HMV hstep hsame hlen hroom
      have HSTEP := Lib.hid hstep
      have HSAME := Lib.hid hsame
      have HLEN := Lib.hid hlen
      have HROOM := Lib.hid hroom
      have HNN := Lib.hid hn
      clear hr hstep hsame hlen hroom hs hsF hsl hn
      by_cases he : er = 0
      · subst he
        go_wp2_with (go_at_call 28; (with_reducible refine HMV.out.mono ?_); rintro e w1 ⟨rfl, p1, t1⟩; have HP1 := Lib.hid p1; have HT1 := Lib.hid t1; clear p1 t1)
        go_roundw
        case rel =>
          refine ⟨j + 1, d1, a1, by omega, by go_num, HP1.out, HTj.out.trans HT1.out, HSAME.out.1.trans HFj.out, HLEN.out.trans HLj.out, HROOM.out, ?_⟩
          have := HSTEP.out
          rw [if_pos trivial] at this
          rw [this, show m - (j + 1) = n by have := HNN.out; omega]
        case measure => simp [intOf]; omega
      · have e1 : (er == 0) = false := by rw [beq_eq_false_iff_ne]; exact he
        have HE1 : Hid (R = (d1, a1, fB er)) := Lib.hid (by rw [HSTEP.out, if_neg he])
        have HFB := Lib.hid (fault10_b er)
        clear he
        go_wp2_with (first
          | (go_at_call 28; (with_reducible refine HMV.out.mono ?_); rintro e w1 ⟨rfl, p1, t1⟩; have HP1 := Lib.hid p1; have HT1 := Lib.hid t1; clear p1 t1)
          | (go_at_call 29; (with_reducible refine (HFB.out _).mono ?_); rintro e w2 ⟨rfl, hw⟩; obtain rfl := hw.symm))
        go_ret
        rw [HE1.out]
        exact ⟨rfl, HP1.out, HTj.out.trans HT1.out⟩
    · obtain rfl : j = m := by omega
      have hge : ¬ (j : Int) < M := by have := HMM.out; omega
      have HE1 : Hid (R = (d', a', 0#32)) := Lib.hid (by have := HEj.out; rw [Nat.sub_self] at this; exact this)
      go_wp2
      go_ret
      rw [HE1.out]
      exact ⟨rfl, HPj.out, HTj.out⟩

theorem pd_line (x : BitVec 32) : (pdC D d).set 4 (.int .u32 (U x)) = pdC D { d with line := x } := rfl
theorem pd_err (x : BitVec 32) : (pdC D d).set 3 (.int .u32 (U x)) = pdC D { d with err := x } := rfl
theorem pd_first (x : BitVec 32) : (pdC D d).set 1 (.int .u32 (U x)) = pdC D { d with first := x } := rfl
theorem pd_many (x : BitVec 32) : (pdC D d).set 2 (.int .u32 (U x)) = pdC D { d with many := x } := rfl
theorem pMoves_same (v : Int) : ∀ (n : Nat) (d : DvM) (a : α) (j : Nat), (pMoves D v n d a j).1.first = d.first ∧ (pMoves D v n d a j).1.many = d.many ∧ (pMoves D v n d a j).1.line = d.line ∧ (pMoves D v n d a j).1.place = d.place ∧ (pMoves D v n d a j).1.buf.length = d.buf.length
  | 0, d, a, j => ⟨rfl, rfl, rfl, rfl, rfl⟩
  | n + 1, d, a, j => by
    obtain ⟨h1, h2, h3, h4, h5, _⟩ := pMove_same (D := D) v d a (d.first.toNat + j) j
    rw [pMoves]
    split
    · obtain ⟨g1, g2, g3, g4, g5⟩ := pMoves_same v n (pMove D v d a (d.first.toNat + j) j).1 (pMove D v d a (d.first.toNat + j) j).2.1 (j + 1)
      exact ⟨g1.trans h1, g2.trans h2, g3.trans h3, g4.trans h4, g5.trans h5⟩
    · exact ⟨h1, h2, h3, h4, h5⟩
theorem pTrans_same (v : Int) (d : DvM) (a : α) : (pTrans D v d a).1.first = d.first ∧ (pTrans D v d a).1.many = d.many ∧ (pTrans D v d a).1.line = d.line ∧ (pTrans D v d a).1.place = d.place ∧ (pTrans D v d a).1.buf.length = d.buf.length := by
  unfold pTrans
  split
  · exact ⟨rfl, rfl, rfl, rfl, rfl⟩
  · exact pMoves_same v _ d a 0
set_option maxRecDepth 100000 in
set_option maxHeartbeats 2000000 in
theorem cmd10 (h : PdAt D q K d a w) (hD : D.Is) (hr : D.room a 4) (v : BitVec 32) :
    Calls Try.prog 19 #[.pointer (some ⟨q, 0, none⟩), .int .u32 (U v)] w fun e w' => e = .returned (.tuple #[]) ∧ PdAt D q K (pCmd D (U v) d a).1 (pCmd D (U v) d a).2 w' ∧ Turned (Un10 D.B K) w w' := by
  obtain ⟨_, _, _, c3, c4, c21⟩ := pd_cells h
  have f3 := h.own.frozen 3
  have f4 := h.own.frozen 4
  have f21 := h.own.frozen 21
  have HP := Lib.hid h
  have HD := Lib.hid hD
  have HR := Lib.hid hr
  clear h hD hr
  go_enter Try.func19, Try.ntmps19
  go_upto_region 1 with (fail)
  obtain ⟨W1, e1, P1, T1⟩ := HP.out.put HD.out 21 (.int .i64 0) (pd_place (u := 0) HP.out.b) HP.out.b (by show 0 < 16; omega)
  obtain ⟨W2, e2, P2, T2⟩ := P1.put HD.out 4 (.int .u32 (U 1#32)) (pd_line 1#32) P1.b P1.p
  obtain ⟨W3, e3, P3, T3⟩ := P2.put HD.out 3 (.int .u32 (U 0#32)) (pd_err 0#32) P2.b P2.p
  rw [e1, show W1.setCell ⟨q, 4, none⟩ (.int .u32 1) = W2 from e2, show W2.setCell ⟨q, 3, none⟩ (.int .u32 0) = W3 from e3]
  have HP3 : Hid (PdAt D q K (dCalm d) a W3) := Lib.hid P3
  have HT3 := Lib.hid ((T1.trans T2).trans T3)
  clear e1 P1 T1 e2 P2 T2 e3 P3 T3 c3 c4 c21 f3 f4 f21
  by_cases h123 : U v = 1 ∨ U v = 2 ∨ U v = 3
  · have HX : Hid (pCmd D (U v) d a = ({ (pTrans D (U v) (dCalm d) a).1 with err := (pTrans D (U v) (dCalm d) a).2.2 }, (pTrans D (U v) (dCalm d) a).2.1)) := Lib.hid (by unfold pCmd; rw [if_pos h123])
    have HTR := Lib.hid (trans10 HP3.out HD.out HR.out v h123)
    have hsame := pTrans_same (D := D) (U v) (dCalm d) a
    obtain ⟨r, hr⟩ : ∃ r, r = pTrans D (U v) (dCalm d) a := ⟨_, rfl⟩
    rw [← hr] at HX HTR hsame
    obtain ⟨d1, a1, x⟩ := r
    dsimp only at HX HTR hsame
    have HSAME := Lib.hid hsame
    clear hr hsame
    rcases h123 with h1 | h1 | h1
    all_goals (
      rw [h1] at HX HTR
      go_wp2_with (go_at_call 24; (with_reducible refine HTR.out.mono ?_); rintro e w1 ⟨rfl, p1, t1⟩; have HP1 := Lib.hid p1; have HT1 := Lib.hid t1; have c3 := (pd_cells p1).2.2.2.1; have f3 := p1.own.frozen 3; clear p1 t1)
      obtain ⟨W4, e4, P4, T4⟩ := HP1.out.put HD.out 3 (.int .u32 (U x)) (pd_err x) HP1.out.b HP1.out.p
      go_end0
      rw [e4, h1, HX.out]
      exact ⟨rfl, P4, (HT3.out.trans HT1.out).trans T4⟩)
  · have n1 : (U v == 1) = false := by rw [beq_eq_false_iff_ne]; omega
    have n2 : (U v == 2) = false := by rw [beq_eq_false_iff_ne]; omega
    have n3 : (U v == 3) = false := by rw [beq_eq_false_iff_ne]; omega
    by_cases h4 : U v = 4
    · have HX : Hid (pCmd D (U v) d a = (dCalm d, a)) := Lib.hid (by unfold pCmd; rw [if_neg h123, if_pos h4])
      have n4 : (U v == 4) = true := by rw [beq_iff_eq]; exact h4
      clear h123 h4
      go_wp2
      go_end0
      rw [HX.out]
      exact ⟨rfl, HP3.out, HT3.out⟩
    · have HX : Hid (pCmd D (U v) d a = ({ dCalm d with err := 1#32 }, a)) := Lib.hid (by unfold pCmd; rw [if_neg h123, if_neg h4])
      have n4 : (U v == 4) = false := by rw [beq_eq_false_iff_ne]; exact h4
      have c3 := (pd_cells HP3.out).2.2.2.1
      have f3 := HP3.out.own.frozen 3
      clear h123 h4
      go_wp2
      obtain ⟨W4, e4, P4, T4⟩ := HP3.out.put HD.out 3 (.int .u32 (U 1#32)) (pd_err 1#32) HP3.out.b HP3.out.p
      go_end0
      rw [show W3.setCell ⟨q, 3, none⟩ (.int .u32 1) = W4 from e4, HX.out]
      exact ⟨rfl, P4, HT3.out.trans T4⟩
end
end Go.Proofs.Ytpkkejdjhnmjiaa
