/- The program's device of layer sector: Set; what the document's device does, where the disk keeps what it was told. -/
import Derived.Test.YtpkkejdjhnmjiaaPd4
namespace Go.Proofs.Ytpkkejdjhnmjiaa
open Go.RowKit Bm

/-- What a register takes. -/
def pSet {α : Type} (D : Dk10 α) (reg : Int) (v : BitVec 32) (d : DvM) (a : α) : DvM × α × Int :=
  if reg = 0 then ((pCmd D (U v) d a).1, (pCmd D (U v) d a).2, 0) else if reg = 1 then ({ d with first := v }, a, 0) else if reg = 2 then ({ d with many := v }, a, 0)
  else if reg = 5 then ({ d with buf := d.buf.set d.place v, place := dNext d.place }, a, 0) else if reg = 7 then ({ d with line := 0#32 }, a, 0)
  else if reg = 3 ∨ reg = 4 ∨ reg = 6 then (d, a, 0) else (d, a, 3)
section
variable {α : Type} {D : Dk10 α} {q : Nat} {K K' S : Nat → Prop} {d d' : DvM} {a : α} {w w' : World}
set_option maxRecDepth 100000 in
set_option maxHeartbeats 2000000 in
theorem set10 (h : PdAt D q K d a w) (hD : D.Is) (hr : D.room a 4) (reg : Int) (v : BitVec 32) :
    Calls Try.prog 13 #[.pointer (some ⟨q, 0, none⟩), .int .i64 reg, .int .u32 (U v)] w fun e w' => e = .returned (.int .i64 (pSet D reg v d a).2.2) ∧ PdAt D q K (pSet D reg v d a).1 (pSet D reg v d a).2.1 w' ∧ Turned (Un10 D.B K) w w' := by
  have hf := refuse10 h reg
  by_cases hb : reg < 0 ∨ 7 < reg
  · have e1 : regE reg = 3 := by unfold regE; rw [if_pos hb]
    have e2 : pSet D reg v d a = (d, a, 3) := by
      unfold pSet
      rw [if_neg (by omega), if_neg (by omega), if_neg (by omega), if_neg (by omega), if_neg (by omega), if_neg (by omega)]
    rw [e1] at hf
    rw [e2]
    have HR := Lib.hid hf
    have FIN : Hid (PdAt D q K d a w ∧ Turned (Un10 D.B K) w w) := Lib.hid ⟨h, Turned.refl _ _⟩
    clear h hf e1 e2 hb hr
    go_enter Try.func13, Try.ntmps13
    go_wp2_with (go_at_call 18; (with_reducible refine HR.out.mono ?_); rintro e w1 ⟨rfl, hw⟩; obtain rfl := hw.symm)
    go_ret
    exact ⟨rfl, FIN.out⟩
  have e1 : regE reg = 0 := by unfold regE; rw [if_neg hb]
  rw [e1] at hf
  have HR := Lib.hid hf
  have HP := Lib.hid h
  have HD := Lib.hid hD
  have HC := Lib.hid (cmd10 h hD hr v)
  have HW := Lib.hid (window10 h hD)
  obtain ⟨_, c1, c2, _, c4, _⟩ := pd_cells h
  have f1 := h.own.frozen 1
  have f2 := h.own.frozen 2
  have f4 := h.own.frozen 4
  clear h hD hr hf e1
  obtain rfl | rfl | rfl | rfl | rfl | rfl | rfl | rfl : reg = 0 ∨ reg = 1 ∨ reg = 2 ∨ reg = 5 ∨ reg = 7 ∨ reg = 3 ∨ reg = 4 ∨ reg = 6 := by omega
  case inl =>
    go_enter Try.func13, Try.ntmps13
    go_wp2_with (first
      | (go_at_call 18; (with_reducible refine HR.out.mono ?_); rintro e w1 ⟨rfl, hw⟩; obtain rfl := hw.symm)
      | (go_at_call 19; (with_reducible refine HC.out.mono ?_); rintro e w1 ⟨rfl, p1, t1⟩; have HP1 := Lib.hid p1; have HT1 := Lib.hid t1; clear p1 t1))
    go_ret
    exact ⟨rfl, HP1.out, HT1.out⟩
  case inr.inl =>
    go_enter Try.func13, Try.ntmps13
    go_wp2_with (go_at_call 18; (with_reducible refine HR.out.mono ?_); rintro e w1 ⟨rfl, hw⟩; obtain rfl := hw.symm)
    obtain ⟨W4, e4, P4, T4⟩ := HP.out.put HD.out 1 (.int .u32 (U v)) (pd_first v) HP.out.b HP.out.p
    go_ret
    rw [e4]
    exact ⟨rfl, P4, T4⟩
  case inr.inr.inl =>
    go_enter Try.func13, Try.ntmps13
    go_wp2_with (go_at_call 18; (with_reducible refine HR.out.mono ?_); rintro e w1 ⟨rfl, hw⟩; obtain rfl := hw.symm)
    obtain ⟨W4, e4, P4, T4⟩ := HP.out.put HD.out 2 (.int .u32 (U v)) (pd_many v) HP.out.b HP.out.p
    go_ret
    rw [e4]
    exact ⟨rfl, P4, T4⟩
  case inr.inr.inr.inl =>
    have HPL := Lib.hid HP.out.p
    go_enter Try.func13, Try.ntmps13
    go_wp2_with (first
      | (go_at_call 18; (with_reducible refine HR.out.mono ?_); rintro e w1 ⟨rfl, hw⟩; obtain rfl := hw.symm)
      | (go_at_call 20; (with_reducible refine HW.out.mono ?_); rintro e w1 ⟨rfl, p1, t1⟩; have HP1 := Lib.hid p1; have HT1 := Lib.hid t1; have cw := pd_word p1 HPL.out; have fw := p1.own.frozen (5 + d.place); clear p1 t1))
    obtain ⟨W4, e4, P4, T4⟩ := HP1.out.put HD.out (5 + d.place) (.int .u32 (U v)) (pd_buf HP1.out.b HPL.out v) (by show (d.buf.set d.place v).length = 16; rw [List.length_set]; exact HP.out.b) HP1.out.p
    go_ret
    rw [e4]
    exact ⟨rfl, P4, HT1.out.trans T4⟩
  case inr.inr.inr.inr.inl =>
    go_enter Try.func13, Try.ntmps13
    go_wp2_with (go_at_call 18; (with_reducible refine HR.out.mono ?_); rintro e w1 ⟨rfl, hw⟩; obtain rfl := hw.symm)
    obtain ⟨W4, e4, P4, T4⟩ := HP.out.put HD.out 4 (.int .u32 (U 0#32)) (pd_line 0#32) HP.out.b HP.out.p
    go_ret
    rw [show w.setCell ⟨q, 4, none⟩ (.int .u32 0) = W4 from e4]
    exact ⟨rfl, P4, T4⟩
  all_goals (
    go_enter Try.func13, Try.ntmps13
    go_wp2_with (go_at_call 18; (with_reducible refine HR.out.mono ?_); rintro e w1 ⟨rfl, hw⟩; obtain rfl := hw.symm)
    go_ret
    exact ⟨rfl, HP.out, Turned.refl _ _⟩)

/-! ### Plain data: a disk that keeps what it was told -/
/-- In the states I the disk has the sectors view. -/
structure Faith (D : Dk10 α) (I : α → Prop) (view : α → List V4) : Prop where
  len : ∀ a, D.len a = (view a).length
  rd : ∀ a i, I a → i < D.len a → (D.rd a i).2 = (vN (view a) i, 0) ∧ view (D.rd a i).1 = view a ∧ I (D.rd a i).1
  wr : ∀ a i x, I a → i < D.len a → (D.wr a i x).2 = 0 ∧ view (D.wr a i x).1 = (view a).set i x ∧ I (D.wr a i x).1
  tr : ∀ a i, I a → i < D.len a → (D.tr a i).2 = 0 ∧ view (D.tr a i).1 = (view a).set i v40 ∧ I (D.tr a i).1
/-- The document's device of the program's. -/
def docOf (view : α → List V4) (d : DvM) (a : α) : DvM := { d with disk := view a }
variable {I : α → Prop} {view : α → List V4}
theorem move_doc (hF : Faith D I view) (hI : I a) (v : Int) (hv : v = 1 ∨ v = 2 ∨ v = 3) (d : DvM) {j : Nat} (hs : d.first.toNat + j < D.len a) :
    (pMove D v d a (d.first.toNat + j) j).2.2 = 0 ∧ docOf view (pMove D v d a (d.first.toNat + j) j).1 (pMove D v d a (d.first.toNat + j) j).2.1 = dTurn v (docOf view d a) j ∧ I (pMove D v d a (d.first.toNat + j) j).2.1 := by
  rcases hv with rfl | rfl | rfl
  · obtain ⟨h1, h2, h3⟩ := hF.rd a _ hI hs
    have h4 : (D.rd a (d.first.toNat + j)).2.2 = 0 := by rw [h1]
    have h5 : (D.rd a (d.first.toNat + j)).2.1 = vN (view a) (d.first.toNat + j) := by rw [h1]
    unfold pMove
    rw [if_pos rfl, h4, if_pos rfl]
    refine ⟨rfl, ?_, h3⟩
    unfold dTurn docOf
    rw [if_pos rfl]
    dsimp only
    rw [h5, h2]
  · obtain ⟨h1, h2, h3⟩ := hF.wr a _ (quad d.buf j) hI hs
    unfold pMove
    rw [if_neg (by omega), if_pos rfl]
    refine ⟨h1, ?_, h3⟩
    unfold dTurn docOf
    rw [if_neg (by omega), if_pos rfl]
    dsimp only
    rw [h2]
    rfl
  · obtain ⟨h1, h2, h3⟩ := hF.tr a _ hI hs
    unfold pMove
    rw [if_neg (by omega), if_neg (by omega)]
    refine ⟨h1, ?_, h3⟩
    unfold dTurn docOf
    rw [if_neg (by omega), if_neg (by omega)]
    dsimp only
    rw [h2]
theorem moves_doc (hD : D.Is) (hF : Faith D I view) (v : Int) (hv : v = 1 ∨ v = 2 ∨ v = 3) : ∀ (n : Nat) (d : DvM) (a : α) (j : Nat), I a → d.first.toNat + j + n ≤ D.len a →
    (pMoves D v n d a j).2.2 = 0#32 ∧ docOf view (pMoves D v n d a j).1 (pMoves D v n d a j).2.1 = (List.range' j n).foldl (dTurn v) (docOf view d a) ∧ I (pMoves D v n d a j).2.1
  | 0, d, a, j, hI, _ => ⟨rfl, rfl, hI⟩
  | n + 1, d, a, j, hI, hs => by
    obtain ⟨h1, h2, h3⟩ := move_doc hF hI v hv d (j := j) (by omega)
    have hl := pMove_len hD v d a (d.first.toNat + j) j
    have hf := (pMove_same (D := D) v d a (d.first.toNat + j) j).1
    obtain ⟨g1, g2, g3⟩ := moves_doc hD hF v hv n (pMove D v d a (d.first.toNat + j) j).1 (pMove D v d a (d.first.toNat + j) j).2.1 (j + 1) h3 (by rw [hf, hl]; omega)
    rw [pMoves, if_pos h1]
    refine ⟨g1, ?_, g3⟩
    rw [g2, h2, List.range'_succ]
    rfl
theorem cmd_doc (hD : D.Is) (hF : Faith D I view) (hI : I a) (v : Int) (d : DvM) : docOf view (pCmd D v d a).1 (pCmd D v d a).2 = dCmd (docOf view d a) v ∧ I (pCmd D v d a).2 := by
  have hfar : dFar (docOf view d a) ↔ pFar (D.len a) d := by
    unfold dFar pFar docOf
    rw [hF.len]
  unfold pCmd dCmd
  by_cases h123 : v = 1 ∨ v = 2 ∨ v = 3
  · rw [if_pos h123, if_neg (by omega)]
    unfold pTrans
    by_cases hf : pFar (D.len a) d
    · rw [if_pos (show pFar (D.len a) (dCalm d) from hf), if_pos ⟨by omega, hfar.2 hf⟩]
      exact ⟨rfl, hI⟩
    · rw [if_neg (show ¬ pFar (D.len a) (dCalm d) from hf), if_neg (fun h => hf (hfar.1 h.2)), if_neg (by omega)]
      have hm : ((dCalm d).first.toNat : Int) + 0 + ((dCalm d).many.toNat : Int) ≤ D.len a := by
        unfold pFar U at hf
        show (d.first.toNat : Int) + 0 + (d.many.toNat : Int) ≤ D.len a
        omega
      obtain ⟨h1, h2, h3⟩ := moves_doc hD hF v h123 (dCalm d).many.toNat (dCalm d) a 0 hI (by omega)
      refine ⟨?_, h3⟩
      have he : ∀ x : DvM × α × BitVec 32, x.2.2 = 0#32 → docOf view { x.1 with err := x.2.2 } x.2.1 = { docOf view x.1 x.2.1 with err := 0#32 } := fun x h => by unfold docOf; rw [h]
      rw [he _ h1, h2, ← List.range_eq_range']
      have hd : docOf view (dCalm d) a = dCalm (docOf view d a) := rfl
      rw [hd]
      show { dTurns v (dCalm (docOf view d a)) d.many.toNat with err := 0#32 } = dTurns v (dCalm (docOf view d a)) d.many.toNat
      have hz : ∀ n, (dTurns v (dCalm (docOf view d a)) n).err = 0#32 := fun n => by
        induction n with
        | zero => rfl
        | succ n ih =>
          rw [dTurns_succ]
          exact (dTurn_same v _ n).2.2.1.trans ih
      rw [← hz d.many.toNat]
  · by_cases h4 : v = 4
    · rw [if_neg h123, if_pos h4, if_neg (by omega), if_neg (by omega), if_pos h4]
      exact ⟨rfl, hI⟩
    · rw [if_neg h123, if_neg h4, if_pos (by omega)]
      exact ⟨rfl, hI⟩
theorem set_doc (hD : D.Is) (hF : Faith D I view) (hI : I a) (reg : Int) (v : BitVec 32) (d : DvM) : (docOf view (pSet D reg v d a).1 (pSet D reg v d a).2.1, (pSet D reg v d a).2.2) = dSet (docOf view d a) reg v ∧ I (pSet D reg v d a).2.1 := by
  obtain ⟨hc, hi⟩ := cmd_doc hD hF hI (U v) d
  unfold pSet dSet
  by_cases r0 : reg = 0
  · rw [if_pos r0, if_pos r0, ← hc]
    exact ⟨rfl, hi⟩
  rw [if_neg r0, if_neg r0]
  by_cases r1 : reg = 1
  · rw [if_pos r1, if_pos r1]
    exact ⟨rfl, hI⟩
  rw [if_neg r1, if_neg r1]
  by_cases r2 : reg = 2
  · rw [if_pos r2, if_pos r2]
    exact ⟨rfl, hI⟩
  rw [if_neg r2, if_neg r2]
  by_cases r5 : reg = 5
  · rw [if_pos r5, if_pos r5]
    exact ⟨rfl, hI⟩
  rw [if_neg r5, if_neg r5]
  by_cases r7 : reg = 7
  · rw [if_pos r7, if_pos r7]
    exact ⟨rfl, hI⟩
  rw [if_neg r7, if_neg r7]
  split
  · exact ⟨rfl, hI⟩
  · exact ⟨rfl, hI⟩
theorem get_doc (hF : Faith D I view) (reg : Int) (d : DvM) : (docOf view (pGet (D.len a) d reg).1 a, (pGet (D.len a) d reg).2) = dGet (docOf view d a) reg := by
  have h : (docOf view d a).disk.length = D.len a := (hF.len a).symm
  rw [← pGet_is h]
  unfold pGet
  by_cases r0 : reg = 0
  · rw [if_pos r0, if_pos r0]
  rw [if_neg r0, if_neg r0]
  by_cases r1 : reg = 1
  · rw [if_pos r1, if_pos r1]
    rfl
  rw [if_neg r1, if_neg r1]
  by_cases r2 : reg = 2
  · rw [if_pos r2, if_pos r2]
    rfl
  rw [if_neg r2, if_neg r2]
  by_cases r3 : reg = 3
  · rw [if_pos r3, if_pos r3]
    rfl
  rw [if_neg r3, if_neg r3]
  by_cases r4 : reg = 4
  · rw [if_pos r4, if_pos r4]
    rfl
  rw [if_neg r4, if_neg r4]
  by_cases r5 : reg = 5
  · rw [if_pos r5, if_pos r5]
    rfl
  rw [if_neg r5, if_neg r5]
  by_cases r6 : reg = 6
  · rw [if_pos r6, if_pos r6]
  rw [if_neg r6, if_neg r6]
  by_cases r7 : reg = 7
  · rw [if_pos r7, if_pos r7]
    rfl
  rw [if_neg r7, if_neg r7]
theorem set_room (hD : D.Is) (reg : Int) (v : BitVec 32) (d : DvM) (n : Nat) (h : D.room a (n + 4)) : D.room (pSet D reg v d a).2.1 n := by
  have mv : ∀ (m : Nat) (d : DvM) (a : α) (j k : Nat), m ≤ k → D.room a (n + k) → D.room (pMoves D (U v) m d a j).2.1 n := by
    intro m
    induction m with
    | zero => exact fun d a j k _ h => hD.le a n k h
    | succ m ih =>
      intro d a j k hk h
      obtain ⟨k', rfl⟩ : ∃ k', k = k' + 1 := ⟨k - 1, by omega⟩
      have h1 := pMove_room hD (U v) d a (d.first.toNat + j) j (n + k') h
      rw [pMoves]
      split
      · exact ih _ _ _ k' (by omega) h1
      · exact hD.le _ n k' h1
  have hn := hD.le a n 4 h
  unfold pSet
  split
  · unfold pCmd
    split
    · unfold pTrans
      split
      · exact hn
      · rename_i hf
        exact mv _ _ _ _ 4 (by unfold pFar U at hf; show (dCalm d).many.toNat ≤ 4; have : (dCalm d).many = d.many := rfl; omega) h
    split
    · exact hn
    · exact hn
  split
  · exact hn
  split
  · exact hn
  split
  · exact hn
  split
  · exact hn
  split
  · exact hn
  · exact hn
end
end Go.Proofs.Ytpkkejdjhnmjiaa
