/- Layer sector, the document's device: Set. -/
import Derived.Test.YtpkkejdjhnmjiaaSec4
namespace Go.Proofs.Ytpkkejdjhnmjiaa
set_option linter.unusedSimpArgs false
open Go.RowKit Bm

/-- What a register takes. -/
def dSet (d : DvM) (reg : Int) (v : BitVec 32) : DvM × Int :=
  if reg = 0 then (dCmd d (U v), 0) else if reg = 1 then ({ d with first := v }, 0) else if reg = 2 then ({ d with many := v }, 0)
  else if reg = 5 then ({ d with buf := d.buf.set d.place v, place := dNext d.place }, 0) else if reg = 7 then ({ d with line := 0#32 }, 0)
  else if reg = 3 ∨ reg = 4 ∨ reg = 6 then (d, 0) else (d, 3)
theorem dSet_ok {d : DvM} (ok : DvOk d) (reg : Int) (v : BitVec 32) : DvOk (dSet d reg v).1 := by
  unfold dSet
  split
  · exact dCmd_ok ok
  split
  · exact ⟨ok.b, ok.p, ok.few⟩
  split
  · exact ⟨ok.b, ok.p, ok.few⟩
  split
  · exact ⟨by simp [ok.b], by simp only [dNext]; omega, ok.few⟩
  split
  · exact ⟨ok.b, ok.p, ok.few⟩
  split
  · exact ok
  · exact ok
theorem dSet_disk (d : DvM) (reg : Int) (v : BitVec 32) : (dSet d reg v).1.disk.length = d.disk.length := by
  unfold dSet
  split
  · exact dCmd_disk _ _
  split
  · rfl
  split
  · rfl
  split
  · rfl
  split
  · rfl
  split
  · rfl
  · rfl
theorem dv_first {sl : Value} {d : DvM} (x : BitVec 32) : (dvC sl d).set 0 (.int .u32 (U x)) = dvC sl { d with first := x } := rfl
theorem dv_many {sl : Value} {d : DvM} (x : BitVec 32) : (dvC sl d).set 1 (.int .u32 (U x)) = dvC sl { d with many := x } := rfl


set_option maxRecDepth 100000 in
set_option maxHeartbeats 4000000 in
theorem rset10_any (A : Option Addr) (c : Nat) (d : DvM) (ok : DvOk d) (reg : Int) (v : BitVec 32) (w : World) (hR : v4K.Reads w A d.disk.length c d.disk) (hlow : ∀ g off, A = some ⟨g, off, none⟩ → g < w.heap.size) :
    Calls Try.prog 17 #[.agg (dvC (.slice A d.disk.length c) d).toArray, .int .i64 reg, .int .u32 (U v)] w fun e w' => ∃ A' c', e = .returned (.tuple #[.agg (dvC (.slice A' d.disk.length c') (dSet d reg v).1).toArray, .int .i64 (dSet d reg v).2]) ∧ v4K.Reads w' A' d.disk.length c' (dSet d reg v).1.disk ∧ Below w.heap.size w w' ∧ ∀ g off, A' = some ⟨g, off, none⟩ → A' = A ∨ (w.heap.size + 2 ≤ g ∧ g < w'.heap.size) := by
  obtain ⟨W0, hW0⟩ : ∃ W0, W0 = V2 w (dvC (.slice A d.disk.length c) d) := ⟨_, rfl⟩
  have hz := dv_zero
  have D0 := DvAt.start w (.slice A d.disk.length c) d
  have hW1 := hW0
  unfold V2 at hW1
  rw [← hW0] at D0
  have HD0 := Lib.hid D0
  have HOK := Lib.hid ok
  have HR := Lib.hid (hR.kept D0.below)
  have HLOW : Hid (∀ g off, A = some ⟨g, off, none⟩ → g < W0.heap.size) := Lib.hid fun g off e => by have := hlow g off e; have := D0.size; omega
  have HEND : Hid (∀ W V : World, Turned (Just w.heap.size) W0 W → Turned (Just (w.heap.size + 1)) W V → v4K.Reads V A d.disk.length c d.disk) := Lib.hid fun W V h h' => (HR.out.turned h (fun g off e => by have := hlow g off e; unfold Just; omega)).turned h' (fun g off e => by have := hlow g off e; unfold Just; omega)
  have f0 := D0.dev.frozen 0
  have f1 := D0.dev.frozen 1
  have f3 := D0.dev.frozen 3
  have c0 : W0.cell? ⟨w.heap.size, 0, none⟩ = some (.int .u32 (U d.first)) := D0.dev.cell 0
  have c1 : W0.cell? ⟨w.heap.size, 1, none⟩ = some (.int .u32 (U d.many)) := D0.dev.cell 1
  have c3 : W0.cell? ⟨w.heap.size, 3, none⟩ = some (.int .u32 (U d.line)) := D0.dev.cell 3
  have HTR : Hid (Turned (Just w.heap.size) W0 W0) := Lib.hid (Turned.refl _ _)
  clear D0 hW0 hR
  go_enter Try.func17, Try.ntmps17
  go_upto_region 1 with (fail)
  change Code.wp _ _ _ _ ((w.alloc (.cells (dvC (.slice A d.disk.length c) d).toArray 34)).alloc (.cells dvZ.toArray 34))
  rw [← hW1]
  clear hW1
  by_cases r0 : reg = 0
  · have HG : Hid (dSet d reg v = (dCmd d (U v), 0)) := Lib.hid (by unfold dSet; rw [if_pos r0])
    have e0 : (reg == 0) = true := by rw [beq_iff_eq]; exact r0
    have HC := Lib.hid (rcmd10_any A c d HOK.out v W0 HR.out HLOW.out)
    have HL := Lib.hid (dv_len (sl := .slice A d.disk.length c) HOK.out)
    clear r0
    go_wp2_with (first
      | (refine wpList_ldr (xs := dvC (.slice A d.disk.length c) d) _ rfl rfl rfl Try.underlying34 rfl dv_size HL.out HD0.out.dev.rng0 ?_)
      | (go_at_call 23; (with_reducible refine HC.out.mono ?_); rintro e w1 ⟨A', c', rfl, R1, b1, n1⟩; have HR1 := Lib.hid R1; have HN1 := Lib.hid n1; have HD1 := Lib.hid (HD0.out.kept b1); clear R1 b1 n1)
      | (refine wpList_stm (pre := []) (post := []) (xs := dvZ) (ys := dvC (.slice A' d.disk.length c') _) _ _ rfl rfl rfl rfl dv_size dvZ_len (dv_len (dCmd_ok HOK.out)) (dv_one _) rfl (by simp) HD1.out.out ?_; intro V A9 T9; rw [List.nil_append, List.append_nil] at A9; have HA9 := Lib.hid A9; have HT9 := Lib.hid T9; clear A9 T9))
    refine bodyPost_ret (res_cell2 Try.results17 _ Try.underlying34 rfl dv_size rfl rfl HA9.out (dv_len (dCmd_ok HOK.out))) rfl ?_
    rw [HG.out]
    have hs := HD0.out.size
    have hsv := HT9.out.size
    have hn : ∀ g off, A' = some ⟨g, off, none⟩ → A' = A ∨ (w.heap.size + 2 ≤ g ∧ g < V.heap.size) := fun g off e => (HN1.out g off e).imp id (fun h => by omega)
    exact ⟨A', c', rfl, HR1.out.turned HT9.out (fun g off e => by
      rcases hn g off e with h | h
      · have := hlow g off (h ▸ e)
        unfold Just
        omega
      · unfold Just
        omega), HD1.out.fin HT9.out, hn⟩
  have e0 : (reg == 0) = false := by rw [beq_eq_false_iff_ne]; exact r0
  by_cases r1 : reg = 1
  · have HG : Hid (dSet d reg v = ({ d with first := v }, 0)) := Lib.hid (by unfold dSet; rw [if_neg r0, if_pos r1])
    have e1 : (reg == 1) = true := by rw [beq_iff_eq]; exact r1
    have HOK' : Hid (DvOk { d with first := v }) := Lib.hid ⟨HOK.out.b, HOK.out.p, HOK.out.few⟩
    clear r0 r1
    go_upto_region 17 with (fail)
    obtain ⟨W4, e4, D4, T4⟩ := HD0.out.put 0 _ (dv_first v)
    rw [e4]
    have HD4 := Lib.hid D4
    have HTW := Lib.hid T4
    clear e4 D4 T4
    have HLt := Lib.hid (dv_len (sl := .slice A d.disk.length c) (HOK'.out))
    go_wp2_with (first
      | (refine wpList_ldr (xs := dvC (.slice A d.disk.length c) _) _ rfl rfl rfl Try.underlying34 rfl dv_size HLt.out (HD4).out.dev.rng0 ?_)
      | (refine wpList_stm (pre := []) (post := []) (xs := dvZ) (ys := dvC (.slice A d.disk.length c) _) _ _ rfl rfl rfl rfl dv_size dvZ_len HLt.out (dv_one _) rfl (by simp) (HD4).out.out ?_; intro V A9 T9; rw [List.nil_append, List.append_nil] at A9; have HA9 := Lib.hid A9; have HT9 := Lib.hid T9; clear A9 T9))
    refine bodyPost_ret (res_cell2 Try.results17 _ Try.underlying34 rfl dv_size rfl rfl HA9.out HLt.out) rfl ?_
    rw [HG.out]
    exact ⟨A, c, rfl, HEND.out _ _ HTW.out HT9.out, (HD4).out.fin HT9.out, fun _ _ _ => .inl rfl⟩
  have e1 : (reg == 1) = false := by rw [beq_eq_false_iff_ne]; exact r1
  by_cases r2 : reg = 2
  · have HG : Hid (dSet d reg v = ({ d with many := v }, 0)) := Lib.hid (by unfold dSet; rw [if_neg r0, if_neg r1, if_pos r2])
    have e2 : (reg == 2) = true := by rw [beq_iff_eq]; exact r2
    have HOK' : Hid (DvOk { d with many := v }) := Lib.hid ⟨HOK.out.b, HOK.out.p, HOK.out.few⟩
    clear r0 r1 r2
    go_upto_region 17 with (fail)
    obtain ⟨W4, e4, D4, T4⟩ := HD0.out.put 1 _ (dv_many v)
    rw [e4]
    have HD4 := Lib.hid D4
    have HTW := Lib.hid T4
    clear e4 D4 T4
    have HLt := Lib.hid (dv_len (sl := .slice A d.disk.length c) (HOK'.out))
    go_wp2_with (first
      | (refine wpList_ldr (xs := dvC (.slice A d.disk.length c) _) _ rfl rfl rfl Try.underlying34 rfl dv_size HLt.out (HD4).out.dev.rng0 ?_)
      | (refine wpList_stm (pre := []) (post := []) (xs := dvZ) (ys := dvC (.slice A d.disk.length c) _) _ _ rfl rfl rfl rfl dv_size dvZ_len HLt.out (dv_one _) rfl (by simp) (HD4).out.out ?_; intro V A9 T9; rw [List.nil_append, List.append_nil] at A9; have HA9 := Lib.hid A9; have HT9 := Lib.hid T9; clear A9 T9))
    refine bodyPost_ret (res_cell2 Try.results17 _ Try.underlying34 rfl dv_size rfl rfl HA9.out HLt.out) rfl ?_
    rw [HG.out]
    exact ⟨A, c, rfl, HEND.out _ _ HTW.out HT9.out, (HD4).out.fin HT9.out, fun _ _ _ => .inl rfl⟩
  have e2 : (reg == 2) = false := by rw [beq_eq_false_iff_ne]; exact r2
  by_cases r7 : reg = 7
  · have HG : Hid (dSet d reg v = ({ d with line := 0#32 }, 0)) := Lib.hid (by unfold dSet; rw [if_neg r0, if_neg r1, if_neg r2, if_neg (by omega), if_pos r7])
    have e5 : (reg == 5) = false := by rw [beq_eq_false_iff_ne]; omega
    have e7 : (reg == 7) = true := by rw [beq_iff_eq]; exact r7
    have HOK' : Hid (DvOk { d with line := 0#32 }) := Lib.hid ⟨HOK.out.b, HOK.out.p, HOK.out.few⟩
    clear r0 r1 r2 r7
    go_upto_region 17 with (fail)
    obtain ⟨W4, e4, D4, T4⟩ := HD0.out.put 3 _ (dv_line 0#32)
    rw [show W0.setCell ⟨w.heap.size, 3, none⟩ (.int .u32 0) = W4 from e4]
    have HD4 := Lib.hid D4
    have HTW := Lib.hid T4
    clear e4 D4 T4
    have HLt := Lib.hid (dv_len (sl := .slice A d.disk.length c) (HOK'.out))
    go_wp2_with (first
      | (refine wpList_ldr (xs := dvC (.slice A d.disk.length c) _) _ rfl rfl rfl Try.underlying34 rfl dv_size HLt.out (HD4).out.dev.rng0 ?_)
      | (refine wpList_stm (pre := []) (post := []) (xs := dvZ) (ys := dvC (.slice A d.disk.length c) _) _ _ rfl rfl rfl rfl dv_size dvZ_len HLt.out (dv_one _) rfl (by simp) (HD4).out.out ?_; intro V A9 T9; rw [List.nil_append, List.append_nil] at A9; have HA9 := Lib.hid A9; have HT9 := Lib.hid T9; clear A9 T9))
    refine bodyPost_ret (res_cell2 Try.results17 _ Try.underlying34 rfl dv_size rfl rfl HA9.out HLt.out) rfl ?_
    rw [HG.out]
    exact ⟨A, c, rfl, HEND.out _ _ HTW.out HT9.out, (HD4).out.fin HT9.out, fun _ _ _ => .inl rfl⟩
  have e7 : (reg == 7) = false := by rw [beq_eq_false_iff_ne]; exact r7
  by_cases r5 : reg = 5
  · have HG : Hid (dSet d reg v = ({ d with buf := d.buf.set d.place v, place := dNext d.place }, 0)) := Lib.hid (by unfold dSet; rw [if_neg r0, if_neg r1, if_neg r2, if_pos r5])
    have e5 : (reg == 5) = true := by rw [beq_iff_eq]; exact r5
    have okb : DvOk { d with buf := d.buf.set d.place v } := ⟨by simp [HOK.out.b], HOK.out.p, HOK.out.few⟩
    have HOKB := Lib.hid okb
    have HOK' : Hid (DvOk { d with buf := d.buf.set d.place v, place := dNext d.place }) := Lib.hid (dv_ok5 okb)
    have p16 := HOK.out.p
    have p16' : (d.place : Int) < 16 := by omega
    have p0 : (0 : Int) ≤ d.place := by omega
    have c20 := (dv_cells HD0.out.dev HOK.out).2.2.2.2.1
    have fw := HD0.out.dev.frozen (4 + d.place)
    have cw := dv_word HD0.out.dev HOK.out p16
    clear r0 r1 r2 r5 r7 okb
    go_upto_region 11 with (fail)
    obtain ⟨W4, e4, D4, T4⟩ := HD0.out.put _ _ (dv_buf HOK.out HOK.out.p v)
    rw [e4]
    have HD4 := Lib.hid D4
    have HT4 := Lib.hid T4
    have f20 := D4.dev.frozen 20
    have c20' := (dv_cells D4.dev HOKB.out).2.2.2.2.1
    clear e4 D4 T4 c20 fw cw p16
    go_upto_region 17 with (fail)
    obtain ⟨W5, e5, D5, T5⟩ := HD4.out.put _ _ (dv_place HOKB.out)
    rw [e5]
    have HD5 := Lib.hid D5
    have HTW := Lib.hid (HT4.out.trans T5)
    clear e5 D5 T5 f20 c20'
    have HLt := Lib.hid (dv_len (sl := .slice A d.disk.length c) (HOK'.out))
    go_wp2_with (first
      | (refine wpList_ldr (xs := dvC (.slice A d.disk.length c) _) _ rfl rfl rfl Try.underlying34 rfl dv_size HLt.out (HD5).out.dev.rng0 ?_)
      | (refine wpList_stm (pre := []) (post := []) (xs := dvZ) (ys := dvC (.slice A d.disk.length c) _) _ _ rfl rfl rfl rfl dv_size dvZ_len HLt.out (dv_one _) rfl (by simp) (HD5).out.out ?_; intro V A9 T9; rw [List.nil_append, List.append_nil] at A9; have HA9 := Lib.hid A9; have HT9 := Lib.hid T9; clear A9 T9))
    refine bodyPost_ret (res_cell2 Try.results17 _ Try.underlying34 rfl dv_size rfl rfl HA9.out HLt.out) rfl ?_
    rw [HG.out]
    exact ⟨A, c, rfl, HEND.out _ _ HTW.out HT9.out, (HD5).out.fin HT9.out, fun _ _ _ => .inl rfl⟩
  have e5 : (reg == 5) = false := by rw [beq_eq_false_iff_ne]; exact r5
  have HTW := HTR
  by_cases r346 : reg = 3 ∨ reg = 4 ∨ reg = 6
  · have HG : Hid (dSet d reg v = (d, 0)) := Lib.hid (by unfold dSet; rw [if_neg r0, if_neg r1, if_neg r2, if_neg r5, if_neg r7, if_pos r346])
    have HOK' := HOK
    by_cases r3 : reg = 3
    · have e3 : (reg == 3) = true := by rw [beq_iff_eq]; exact r3
      clear r0 r1 r2 r5 r7 r346 r3
      have HLt := Lib.hid (dv_len (sl := .slice A d.disk.length c) (HOK'.out))
      go_wp2_with (first
        | (refine wpList_ldr (xs := dvC (.slice A d.disk.length c) _) _ rfl rfl rfl Try.underlying34 rfl dv_size HLt.out (HD0).out.dev.rng0 ?_)
        | (refine wpList_stm (pre := []) (post := []) (xs := dvZ) (ys := dvC (.slice A d.disk.length c) _) _ _ rfl rfl rfl rfl dv_size dvZ_len HLt.out (dv_one _) rfl (by simp) (HD0).out.out ?_; intro V A9 T9; rw [List.nil_append, List.append_nil] at A9; have HA9 := Lib.hid A9; have HT9 := Lib.hid T9; clear A9 T9))
      refine bodyPost_ret (res_cell2 Try.results17 _ Try.underlying34 rfl dv_size rfl rfl HA9.out HLt.out) rfl ?_
      rw [HG.out]
      exact ⟨A, c, rfl, HEND.out _ _ HTW.out HT9.out, (HD0).out.fin HT9.out, fun _ _ _ => .inl rfl⟩
    have e3 : (reg == 3) = false := by rw [beq_eq_false_iff_ne]; exact r3
    by_cases r4 : reg = 4
    · have e4 : (reg == 4) = true := by rw [beq_iff_eq]; exact r4
      clear r0 r1 r2 r5 r7 r346 r3 r4
      have HLt := Lib.hid (dv_len (sl := .slice A d.disk.length c) (HOK'.out))
      go_wp2_with (first
        | (refine wpList_ldr (xs := dvC (.slice A d.disk.length c) _) _ rfl rfl rfl Try.underlying34 rfl dv_size HLt.out (HD0).out.dev.rng0 ?_)
        | (refine wpList_stm (pre := []) (post := []) (xs := dvZ) (ys := dvC (.slice A d.disk.length c) _) _ _ rfl rfl rfl rfl dv_size dvZ_len HLt.out (dv_one _) rfl (by simp) (HD0).out.out ?_; intro V A9 T9; rw [List.nil_append, List.append_nil] at A9; have HA9 := Lib.hid A9; have HT9 := Lib.hid T9; clear A9 T9))
      refine bodyPost_ret (res_cell2 Try.results17 _ Try.underlying34 rfl dv_size rfl rfl HA9.out HLt.out) rfl ?_
      rw [HG.out]
      exact ⟨A, c, rfl, HEND.out _ _ HTW.out HT9.out, (HD0).out.fin HT9.out, fun _ _ _ => .inl rfl⟩
    have e4 : (reg == 4) = false := by rw [beq_eq_false_iff_ne]; exact r4
    have e6 : (reg == 6) = true := by rw [beq_iff_eq]; omega
    clear r0 r1 r2 r5 r7 r346 r3 r4
    have HLt := Lib.hid (dv_len (sl := .slice A d.disk.length c) (HOK'.out))
    go_wp2_with (first
      | (refine wpList_ldr (xs := dvC (.slice A d.disk.length c) _) _ rfl rfl rfl Try.underlying34 rfl dv_size HLt.out (HD0).out.dev.rng0 ?_)
      | (refine wpList_stm (pre := []) (post := []) (xs := dvZ) (ys := dvC (.slice A d.disk.length c) _) _ _ rfl rfl rfl rfl dv_size dvZ_len HLt.out (dv_one _) rfl (by simp) (HD0).out.out ?_; intro V A9 T9; rw [List.nil_append, List.append_nil] at A9; have HA9 := Lib.hid A9; have HT9 := Lib.hid T9; clear A9 T9))
    refine bodyPost_ret (res_cell2 Try.results17 _ Try.underlying34 rfl dv_size rfl rfl HA9.out HLt.out) rfl ?_
    rw [HG.out]
    exact ⟨A, c, rfl, HEND.out _ _ HTW.out HT9.out, (HD0).out.fin HT9.out, fun _ _ _ => .inl rfl⟩
  have HG : Hid (dSet d reg v = (d, 3)) := Lib.hid (by unfold dSet; rw [if_neg r0, if_neg r1, if_neg r2, if_neg r5, if_neg r7, if_neg r346])
  have HOK' := HOK
  have e3 : (reg == 3) = false := by rw [beq_eq_false_iff_ne]; omega
  have e4 : (reg == 4) = false := by rw [beq_eq_false_iff_ne]; omega
  have e6 : (reg == 6) = false := by rw [beq_eq_false_iff_ne]; omega
  clear r0 r1 r2 r5 r7 r346
  have HLt := Lib.hid (dv_len (sl := .slice A d.disk.length c) (HOK'.out))
  go_wp2_with (first
    | (refine wpList_ldr (xs := dvC (.slice A d.disk.length c) _) _ rfl rfl rfl Try.underlying34 rfl dv_size HLt.out (HD0).out.dev.rng0 ?_)
    | (refine wpList_stm (pre := []) (post := []) (xs := dvZ) (ys := dvC (.slice A d.disk.length c) _) _ _ rfl rfl rfl rfl dv_size dvZ_len HLt.out (dv_one _) rfl (by simp) (HD0).out.out ?_; intro V A9 T9; rw [List.nil_append, List.append_nil] at A9; have HA9 := Lib.hid A9; have HT9 := Lib.hid T9; clear A9 T9))
  refine bodyPost_ret (res_cell2 Try.results17 _ Try.underlying34 rfl dv_size rfl rfl HA9.out HLt.out) rfl ?_
  rw [HG.out]
  exact ⟨A, c, rfl, HEND.out _ _ HTW.out HT9.out, (HD0).out.fin HT9.out, fun _ _ _ => .inl rfl⟩
end Go.Proofs.Ytpkkejdjhnmjiaa
