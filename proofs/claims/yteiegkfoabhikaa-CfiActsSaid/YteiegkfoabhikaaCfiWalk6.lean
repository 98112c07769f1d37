/- The walk of layer cfi's statement CfiStill. -/
import Derived.Test.YteiegkfoabhikaaCfiStK
import Derived.Test.YteiegkfoabhikaaNorSame
import Derived.Test.YteiegkfoabhikaaLaw
import Derived.OpenShut
namespace Go.Proofs.Yteiegkfoabhikaa
open Go.RowKit Bm

theorem fWriteDo_chip (m : FlashM) (i : Nat) (v : BitVec 32) : (fWriteDo m i v).chip = m.chip := by
  unfold fWriteDo fWaited fCommand fProgram fErase fLock fWith
  repeat' split
  all_goals rfl
theorem fWrite_chip (m : FlashM) (a : Int) (v : BitVec 32) : (fWrite m a v).1.chip = m.chip := by
  unfold fWrite
  split
  · exact fWriteDo_chip _ _ _
  · rfl
theorem fTick_still (m : FlashM) (n : Int) (h : m.job = 0) : (fTick m n).1 = m := by
  unfold fTick
  repeat' split
  all_goals first
    | rfl
    | exact absurd h (by assumption)
theorem status_busy {k : Nat} {m : FlashM} (ok : FlashOk k m) (h : m.job ≠ 0) : (U (fStatus m &&& 128#32) == 0) = true := by
  unfold fStatus
  rw [if_neg h, ok.errors]
  rfl
theorem status_idle {m : FlashM} (h : m.job = 0) : (U (fStatus m &&& 128#32) == 0) = false := by
  unfold fStatus
  rw [if_pos h]
  have e : (m.errors ||| 128#32) &&& 128#32 = 128#32 := by
    apply BitVec.eq_of_getLsbD_eq
    intro i _
    simp only [BitVec.getLsbD_and, BitVec.getLsbD_or]
    cases m.errors.getLsbD i <;> cases (128#32).getLsbD i <;> rfl
  rw [e]
  rfl
/-- A copy of words as a later comparison reads it. -/
theorem reads_fresh {w w' : World} {g cap : Nat} {ws : List (BitVec 32)} {rest : List Value} (hA : At w g 30 (Us ws ++ rest)) (hl : (Us ws ++ rest).length = cap) (hm : cap ≤ maxLen) {S : Nat → Prop} (t : Turned S w w') (hg : ¬ S g) :
    ReadsU w' (some ⟨g, 0, none⟩) ws.length cap ws := ReadsU.of_at (hA.kept t hg) hl hm

set_option maxRecDepth 100000 in
set_option maxHeartbeats 8000000 in
theorem cfiStill_walk (A : Option Addr) (n cap : Nat) (xs : List ActM) (w : World) (hr : ReadsA w A n cap xs) :
    Calls Try.prog 4 #[.slice A n cap] w fun e w' => e = .returned (.bool true) ∧ Below w.heap.size w w' := by
  have hle := hr.le
  have hmx := hr.max
  unfold maxLen at hmx
  by_cases hn : 80 < n
  · go_enter Try.func4, Try.ntmps4
    go_wp2_with fail
    refine (alive3_any w).mono ?_
    rintro e wa ⟨rfl, hBa⟩
    go_wp2
    go_ret
    exact ⟨rfl, hBa⟩
  go_enter Try.func4, Try.ntmps4
  go_wp2_with fail
  refine (alive3_any w).mono ?_
  rintro e wa ⟨rfl, hBa⟩
  go_wp2_with fail
  refine (begin_st w.heap.size 3 100 wa hBa.size (by omega) (by omega) (by omega) (by omega)).mono ?_
  rintro e w1 ⟨p, f, rfl, s0, t1⟩
  have q1 := hBa.trans t1
  clear hBa t1
  go_wp2
  go_loopw [22] (fun i wr => ∃ j : Nat, ∃ m, j ≤ n ∧ i = .int .i64 j ∧ St w.heap.size p f m wr ∧ FlashOk 3 m ∧ Below w.heap.size w wr) (fun i _ => n - (intOf i).toNat)
  case atStart => exact ⟨0, _, by omega, rfl, s0, newOk 3 100 (by omega) (by omega) (by omega) (by omega), q1⟩
  case round =>
    clear s0 q1
    obtain ⟨j, m, hj, rfl, s, ok, q⟩ := hrel
    by_cases hlt : j < n
    · obtain ⟨ad, x, rfl, hx⟩ := (hr.kept q).at_ hlt
      have b0 := hx.b0
      have b1 := hx.b1
      have x0 := hx.d0
      have x1 := hx.d1
      have x2 := hx.d2
      clear hx
      obtain ⟨P, hP⟩ : ∃ P, P = wr.heap.size := ⟨_, rfl⟩
      have hA1 := At.news wr 38 [.int .u8 x.kind, .int .i64 x.at_, .int .u32 (U x.v)]
      have sP := s.toK.more ((Below.refl _ wr).alloc (Nat.le_refl _) (.cells [.int .u8 x.kind, .int .i64 x.at_, .int .u32 (U x.v)].toArray 38)) P (by omega) (by rw [World.size_alloc]; omega)
      have q1 := q.alloc q.size (.cells [.int .u8 x.kind, .int .i64 x.at_, .int .u32 (U x.v)].toArray 38)
      rw [← hP] at hA1
      have PQ := Lib.hid hP
      clear hP s
      have HWS := Lib.hid ok.chip.words
      go_wp2_with fail
      rw [← PQ.out]
      refine (sP.st.words ok).mono ?_
      rintro e w2 ⟨g, c2, rest, rfl, hA2, hl2, hm2, hg2, hB2⟩
      have q2 := q1.trans (hB2.mono q1.size)
      have sG := sP.more hB2 g hg2 hA2.lt
      have hAP : At w2 P _ _ := hA1.kept (Turned.of_below hB2 (Nat.le_refl _) NoBlock) (fun h => h)
      clear hA1 q1 sP hB2
      rw [Us_length]
      have y0 := hAP.cell 0
      have y1 := hAP.cell 1
      have y2 := hAP.cell 2
      simp only [List.getElem?_cons_succ, List.getElem?_cons_zero] at y0 y1 y2
      clear x0 x1 x2
      by_cases k3 : x.kind % 8 = 3
      · have K3 : (x.kind % 8 == 3) = true := by rw [beq_iff_eq]; exact k3
        clear k3
        go_wp2_with fail
        refine (sG.read ok x.at_).mono ?_
        rintro e w3 ⟨rfl, nr, rfl⟩
        have s3 := sG.drewN nr
        have t3 : Turned (May w.heap.size (fun i => (NoBlock i ∨ i = P) ∨ i = g)) w2 (w2.drewN nr) := (Turned.refl _ w2).drewN nr
        have q3 := q2.trans (below_drewN _ _ nr)
        clear sG q2
        go_wp2_with fail
        refine (s3.st.words ok).mono ?_
        rintro e w4 ⟨g4, c4, rest4, rfl, hA4, hl4, hm4, hg4, hB4⟩
        have q4 := q3.trans (hB4.mono q3.size)
        have s4 := (s3.below hB4).st
        have ra := reads_fresh hA2 hl2 hm2 (t3.trans (Turned.of_below hB4 (Nat.le_refl _) _)) (by rintro ⟨_, e⟩; exact e (.inr rfl))
        have rb := ReadsU.of_at hA4 hl4 hm4
        have ew : (Us (m).chip.ws).length = m.chip.ws.length := Us_length _
        rw [ew]
        have RA := Lib.hid ra
        have RB := Lib.hid rb
        have OK' := Lib.hid ok
        clear hA2 hl2 hm2 hA4 hl4 hm4 hg4 hB4 ra rb ew q3 s3 t3 hAP y0 y1 y2
        go_wp2_with fail
        refine (same_words _ _ _ _ _ _ w4 RA.out RB.out (by have := HWS.out; omega)).mono ?_
        rintro e w5 ⟨rfl, mm, rfl⟩
        have s5 := s4.drewN mm
        have q5 := q4.trans (below_drewN _ _ mm)
        clear s4 q4
        go_wp2
        go_roundw
        case rel => exact ⟨j + 1, _, by omega, by go_num, s5, OK'.out, q5⟩
        case measure => simp [intOf]; omega
      have K3 : (x.kind % 8 == 3) = false := by rw [beq_eq_false_iff_ne]; exact k3
      by_cases k4 : x.kind % 8 = 4
      · have K4 : (x.kind % 8 == 4) = true := by rw [beq_iff_eq]; exact k4
        clear k3 k4
        have ok' := ok.tick x.at_
        by_cases hjob : m.job = 0
        · have sq := status_idle hjob
          have hmm := fTick_still m x.at_ hjob
          have hcc : (fTick m x.at_).1.chip = m.chip := by rw [hmm]
          have HCC := Lib.hid hcc
          clear hjob hmm hcc
          go_wp2_with fail
          refine (sG.st.status ok).mono ?_
          rintro e w' ⟨rfl, rfl⟩
          go_wp2_with fail
          refine (sG.tick ok x.at_ b1.1 b1.2).mono ?_
          rintro e w3 ⟨rfl, s3, t3⟩
          have q3 := q2.trans (t3.below (fun i hi => hi.1) q2.size)
          clear sG q2 sq
          go_wp2_with fail
          refine (s3.st.words ok').mono ?_
          rintro e w4 ⟨g4, c4, rest4, rfl, hA4, hl4, hm4, hg4, hB4⟩
          have q4 := q3.trans (hB4.mono q3.size)
          have s4 := (s3.below hB4).st
          have ra := reads_fresh hA2 hl2 hm2 (t3.trans (Turned.of_below hB4 (Nat.le_refl _) _)) (by rintro ⟨_, e⟩; exact e (.inr rfl))
          have rb := ReadsU.of_at hA4 hl4 hm4
          rw [HCC.out] at rb
          have ew : (Us ((fTick m x.at_).1).chip.ws).length = m.chip.ws.length := by rw [Us_length, HCC.out]
          rw [ew]
          have RA := Lib.hid ra
          have RB := Lib.hid rb
          have OK' := Lib.hid ok'
          clear hA2 hl2 hm2 hA4 hl4 hm4 hg4 hB4 ra rb ew q3 s3 t3 hAP y0 y1 y2
          go_wp2_with fail
          refine (same_words _ _ _ _ _ _ w4 RA.out RB.out (by have := HWS.out; omega)).mono ?_
          rintro e w5 ⟨rfl, mm, rfl⟩
          have s5 := s4.drewN mm
          have q5 := q4.trans (below_drewN _ _ mm)
          clear s4 q4
          go_wp2
          go_roundw
          case rel => exact ⟨j + 1, _, by omega, by go_num, s5, OK'.out, q5⟩
          case measure => simp [intOf]; omega
        · have sq := status_busy ok hjob
          clear hjob
          go_wp2_with fail
          refine (sG.st.status ok).mono ?_
          rintro e w' ⟨rfl, rfl⟩
          go_wp2_with fail
          refine (sG.tick ok x.at_ b1.1 b1.2).mono ?_
          rintro e w3 ⟨rfl, s3, t3⟩
          have q3 := q2.trans (t3.below (fun i hi => hi.1) q2.size)
          have s4 := s3.st
          have OK' := Lib.hid ok'
          clear sG q2 sq s3 t3 hA2 hl2 hm2 hAP y0 y1 y2 ok'
          go_wp2
          go_roundw
          case rel => exact ⟨j + 1, _, by omega, by go_num, s4, OK'.out, q3⟩
          case measure => simp [intOf]; omega
      have K4 : (x.kind % 8 == 4) = false := by rw [beq_eq_false_iff_ne]; exact k4
      clear k3 k4
      have ok' := ok.write x.at_ x.v
      have HCC := Lib.hid (fWrite_chip m x.at_ x.v)
      go_wp2_with fail
      refine (sG.write ok x.at_ x.v).mono ?_
      rintro e w3 ⟨rfl, s3, t3⟩
      have q3 := q2.trans (t3.below (fun i hi => hi.1) q2.size)
      clear sG q2
      go_wp2_with fail
      refine (s3.st.words ok').mono ?_
      rintro e w4 ⟨g4, c4, rest4, rfl, hA4, hl4, hm4, hg4, hB4⟩
      have q4 := q3.trans (hB4.mono q3.size)
      have s4 := (s3.below hB4).st
      have ra := reads_fresh hA2 hl2 hm2 (t3.trans (Turned.of_below hB4 (Nat.le_refl _) _)) (by rintro ⟨_, e⟩; exact e (.inr rfl))
      have rb := ReadsU.of_at hA4 hl4 hm4
      rw [HCC.out] at rb
      have ew : (Us ((fWrite m x.at_ x.v).1).chip.ws).length = m.chip.ws.length := by rw [Us_length, HCC.out]
      rw [ew]
      have RA := Lib.hid ra
      have RB := Lib.hid rb
      have OK' := Lib.hid ok'
      clear hA2 hl2 hm2 hA4 hl4 hm4 hg4 hB4 ra rb ew q3 s3 t3 hAP y0 y1 y2
      go_wp2_with fail
      refine (same_words _ _ _ _ _ _ w4 RA.out RB.out (by have := HWS.out; omega)).mono ?_
      rintro e w5 ⟨rfl, mm, rfl⟩
      have s5 := s4.drewN mm
      have q5 := q4.trans (below_drewN _ _ mm)
      clear s4 q4
      go_wp2
      go_roundw
      case rel => exact ⟨j + 1, _, by omega, by go_num, s5, OK'.out, q5⟩
      case measure => simp [intOf]; omega
    · obtain rfl : j = n := by omega
      go_wp2
      go_ret
      exact ⟨rfl, q⟩
end Go.Proofs.Yteiegkfoabhikaa
