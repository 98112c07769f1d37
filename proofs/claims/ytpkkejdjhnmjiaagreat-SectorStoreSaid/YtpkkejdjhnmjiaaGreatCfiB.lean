/- Contracts of package cfi: the functions of a job, and its execution. | The contracts of package cfi's calls: Write, Read, Tick. | The contracts of package cfi's calls: Read, Tick, Reset, New. | The contracts of package cfi's Reset and New, and of the statements' Begin. -/
import Derived.Test.YtpkkejdjhnmjiaaGreatCfiA
import Derived.Carry
namespace Go.Proofs.YtpkkejdjhnmjiaaGreat
open Go.RowKit Bm
theorem FlashAt.chipTo {w w' : World} {h : Fh} {m : FlashM} (x : FlashAt w h m) {c : ChipM} (t : Turned h.c.own w w') (hc : ChipAt w' h.c c) : FlashAt w' h { m with chip := c } :=
  ⟨hc, x.own.kept t x.fc, x.locks.kept t x.lc,
   ⟨fun j => by
      obtain ⟨a, b, c, d⟩ := x.job.prog j
      exact ⟨a.kept t (fun e => d _ e (.inl rfl)), b.kept t (fun e => d _ e (.inr (.inl rfl))), c.kept t (fun e => d _ e (.inr (.inr rfl))), d⟩,
    fun j => by
      obtain ⟨a, b, d⟩ := x.job.erase j
      exact ⟨a.kept t (fun e => (d _ e).1 rfl), b.kept t (fun e => (d _ e).2 rfl), d⟩⟩⟩
theorem turned_c {h : Fh} {w w' : World} (t : Turned h.c.own w w') : Turned h.own w w' := t.mono fun _ _ e => .inl e
def JobOut (h : Fh) (c : ChipM) (n : Int) (w : World) (e : Ending) (w' : World) : Prop := e = .returned (.int .i64 n) ∧ ChipAt w' h.c c ∧ Turned h.c.own w w'
set_option maxRecDepth 100000 in
set_option maxHeartbeats 1000000 in
theorem prog1_any (h : Fh) (c : ChipM) (k i : Nat) (v : BitVec 32) (cs : List Value) (w : World) (hc : ChipAt w h.c c) (ok : ChipOk k c) (hf : At w h.f 98 (.pointer (some ⟨h.c.p, 0, none⟩) :: cs))
    (a1 : At w h.j1 54 [.pointer (some ⟨h.f, 0, none⟩)]) (a2 : At w h.j2 3 [.int .i64 (i : Int)]) (a3 : At w h.j3 36 [.int .u32 (U v)]) :
    Calls Tryz.prog 113 #[.pointer (some ⟨h.j1, 0, none⟩), .pointer (some ⟨h.j2, 0, none⟩), .pointer (some ⟨h.j3, 0, none⟩)] w (JobOut h (mProgram c i v).1 (mProgram c i v).2 w) := by
  have g0 := hf.cell 0
  have c1 := a1.cell 0
  have c2 := a2.cell 0
  have c3 := a3.cell 0
  simp only [List.getElem?_cons_zero] at g0 c1 c2 c3
  have hp := program_any h.c c k i v w.drew ⟨hc.own, hc.words, hc.wear, hc.room, hc.cap⟩ ok
  have HP := Lib.hid hp
  clear hp hf a1 a2 a3 hc ok
  go_enter Tryz.func113, Tryz.ntmps113
  go_wp2
  refine wp_region_still_tail 6 (by kernel_rfl) (by kernel_rfl) ?_
  simp only [List.take_succ_cons, List.take_zero, List.drop_succ_cons, List.drop_zero]
  change wpStill _ _ (World.drew _) _ _ _
  repeat still_step
  refine wpStill_nil ?_
  change wpList _ _ _ _ _ (World.drew _)
  go_wp2_with (go_at_call 114; (with_reducible refine HP.out.mono ?_); rintro e w1 ⟨rfl, hc1, ht1⟩)
  go_ret
  exact ⟨rfl, hc1, ((Turned.refl _ w).drew).trans ht1⟩
set_option maxRecDepth 100000 in
set_option maxHeartbeats 1000000 in
theorem erase1_any (h : Fh) (c : ChipM) (k i : Nat) (cs : List Value) (w : World) (hc : ChipAt w h.c c) (ok : ChipOk k c) (hf : At w h.f 98 (.pointer (some ⟨h.c.p, 0, none⟩) :: cs))
    (a1 : At w h.j1 54 [.pointer (some ⟨h.f, 0, none⟩)]) (a2 : At w h.j2 3 [.int .i64 (i : Int)]) :
    Calls Tryz.prog 115 #[.pointer (some ⟨h.j1, 0, none⟩), .pointer (some ⟨h.j2, 0, none⟩)] w (JobOut h (mErase c i).1 (mErase c i).2 w) := by
  have g0 := hf.cell 0
  have c1 := a1.cell 0
  have c2 := a2.cell 0
  simp only [List.getElem?_cons_zero] at g0 c1 c2
  have hp := erase_any h.c c k i w.drew ⟨hc.own, hc.words, hc.wear, hc.room, hc.cap⟩ ok
  have HP := Lib.hid hp
  clear hp hf a1 a2 hc ok
  go_enter Tryz.func115, Tryz.ntmps115
  go_wp2
  refine wp_region_still_tail 5 (by kernel_rfl) (by kernel_rfl) ?_
  simp only [List.take_succ_cons, List.take_zero, List.drop_succ_cons, List.drop_zero]
  change wpStill _ _ (World.drew _) _ _ _
  repeat still_step
  refine wpStill_nil ?_
  change wpList _ _ _ _ _ (World.drew _)
  go_wp2_with (go_at_call 116; (with_reducible refine HP.out.mono ?_); rintro e w1 ⟨rfl, hc1, ht1⟩)
  go_ret
  exact ⟨rfl, hc1, ((Turned.refl _ w).drew).trans ht1⟩
def Did (h : Fh) (r : FlashM × Int) (w : World) (e : Ending) (w' : World) : Prop := e = .returned (.int .i64 r.2) ∧ FlashAt w' h r.1 ∧ Turned h.own w w'
theorem FlashAt.quit {w : World} {h : Fh} {m : FlashM} (x : FlashAt w h m) : FlashAt ((w.setCell ⟨h.f, 5, none⟩ (.int .i64 0)).setCell ⟨h.f, 6, none⟩ .nilFunc) h (fIdle m m.chip) :=
  x.begin h (fIdle m m.chip) .nilFunc rfl rfl rfl rfl rfl rfl ⟨fun e => (by cases e), fun e => (by cases e)⟩
set_option maxRecDepth 100000 in
set_option maxHeartbeats 2000000 in
theorem execute_any (h : Fh) (m : FlashM) (k : Nat) (w : World) (x : FlashAt w h m) (ok : FlashOk k m) (hj : m.job ≠ 0) :
    Calls Tryz.prog 111 #[.pointer (some ⟨h.f, 0, none⟩)] w (Did h (fDone m) w) := by
  have g5 := x.own.cell 5
  have g6 := x.own.cell 6
  simp only [flCells, List.getElem?_cons_zero, List.getElem?_cons_succ] at g5 g6
  have f5 := x.own.frozen 5
  have f6 := x.own.frozen 6
  have xq := x.quit
  have tq : Turned h.own w ((w.setCell ⟨h.f, 5, none⟩ (.int .i64 0)).setCell ⟨h.f, 6, none⟩ .nilFunc) := turned_f (turned_f (Turned.refl _ _) _ _) _ _
  obtain ⟨W, hW⟩ : ∃ W, W = (w.setCell ⟨h.f, 5, none⟩ (.int .i64 0)).setCell ⟨h.f, 6, none⟩ .nilFunc := ⟨_, rfl⟩
  rw [← hW] at xq tq
  have call : ∃ (f : Nat) (vs : Array Value), actV h m.job = .func (.func f) #[] vs ∧ Calls Tryz.prog f vs W (JobOut h (fJob m).1 (fJob m).2 W) ∧ (f = 113 ∨ f = 115) := by
    rcases ok.job with e | e | e
    · exact absurd e hj
    · obtain ⟨a1, a2, a3, d⟩ := x.job.prog e
      have n1 := a1.ne x.own (by decide)
      have n2 := a2.ne x.own (by decide)
      have n3 := a3.ne x.own (by decide)
      refine ⟨_, _, by rw [actV, if_pos e], ?_, .inl rfl⟩
      unfold fJob
      rw [if_pos e]
      refine prog1_any h m.chip k m.at_ m.v _ W xq.chip ok.chip xq.own ?_ ?_ ?_
      · rw [hW]; exact (a1.far (p := ⟨h.f, 5, none⟩) n1 _).far (p := ⟨h.f, 6, none⟩) n1 _
      · rw [hW]; exact (a2.far (p := ⟨h.f, 5, none⟩) n2 _).far (p := ⟨h.f, 6, none⟩) n2 _
      · rw [hW]; exact (a3.far (p := ⟨h.f, 5, none⟩) n3 _).far (p := ⟨h.f, 6, none⟩) n3 _
    · obtain ⟨a1, a2, d⟩ := x.job.erase e
      have n1 := a1.ne x.own (by decide)
      have n2 := a2.ne x.own (by decide)
      have e' : m.job ≠ 64 := by rw [e]; decide
      refine ⟨_, _, by rw [actV, if_neg e', if_pos e], ?_, .inr rfl⟩
      unfold fJob
      rw [if_neg e']
      refine erase1_any h m.chip k m.at_ _ W xq.chip ok.chip xq.own ?_ ?_
      · rw [hW]; exact (a1.far (p := ⟨h.f, 5, none⟩) n1 _).far (p := ⟨h.f, 6, none⟩) n1 _
      · rw [hW]; exact (a2.far (p := ⟨h.f, 5, none⟩) n2 _).far (p := ⟨h.f, 6, none⟩) n2 _
  obtain ⟨f, vs, ha, hcall, hff⟩ := call
  rw [ha] at g6
  have HC := Lib.hid hcall
  have HW := Lib.hid hW
  have XQ := Lib.hid xq
  have TQ := Lib.hid tq
  clear x hj ok ha hW xq tq hcall
  unfold fDone
  by_cases h5 : (fJob m).2 = 5
  · rw [if_pos h5]
    have q : ((fJob m).2 == 5) = true := by rw [beq_iff_eq]; exact h5
    clear h5
    rcases hff with rfl | rfl
    all_goals
      go_enter Tryz.func111, Tryz.ntmps111
      go_wp2_with fail
      rw [← HW.out]
      refine HC.out.mono ?_
      rintro e w1 ⟨rfl, hc1, ht1⟩
      have x1 := XQ.out.chipTo ht1 hc1
      have g3 := x1.own.cell 3
      simp only [flCells, List.getElem?_cons_zero, List.getElem?_cons_succ] at g3
      have f3 := x1.own.frozen 3
      have X1 := Lib.hid x1
      have T1 := Lib.hid ht1
      clear x1 hc1 ht1
      go_wp2
      go_ret
      exact ⟨rfl, X1.out.putErrors _, turned_f (TQ.out.trans (turned_c T1.out)) _ _⟩
  · rw [if_neg h5]
    have q : ((fJob m).2 == 5) = false := by rw [beq_eq_false_iff_ne]; exact h5
    clear h5
    rcases hff with rfl | rfl
    all_goals
      go_enter Tryz.func111, Tryz.ntmps111
      go_wp2_with fail
      rw [← HW.out]
      refine HC.out.mono ?_
      rintro e w1 ⟨rfl, hc1, ht1⟩
      have x1 := XQ.out.chipTo ht1 hc1
      have X1 := Lib.hid x1
      have T1 := Lib.hid ht1
      clear x1 hc1 ht1
      go_wp2
      go_ret
      exact ⟨rfl, X1.out, TQ.out.trans (turned_c T1.out)⟩
end Go.Proofs.YtpkkejdjhnmjiaaGreat
namespace Go.Proofs.YtpkkejdjhnmjiaaGreat
open Go.RowKit Bm
@[local go_sem] theorem neq_func (f : Fn) (a b : Array Value) (w : World) : Sem.run Tryz.prog (binOp BinOp.neq 93 (.func f a b) .nilFunc) w = .ok (.bool true) w := by kernel_rfl
@[local go_sem] theorem neq_nil (w : World) : Sem.run Tryz.prog (binOp BinOp.neq 93 .nilFunc .nilFunc) w = .ok (.bool false) w := by kernel_rfl
def DidJ (h : Fh) (r : FlashM × Int) (w : World) (e : Ending) (w' : World) : Prop := e = .returned (.int .i64 r.2) ∧ ∃ j1 j2 j3, FlashAt w' { h with j1 := j1, j2 := j2, j3 := j3 } r.1 ∧ Turned h.own w w'
theorem didJ_same {h : Fh} {m : FlashM} {n : Int} {w w' : World} (x : FlashAt w' h m) (t : Turned h.own w w') {r : FlashM × Int} (hr : r = (m, n)) : DidJ h r w (.returned (.int .i64 n)) w' := by
  subst hr
  exact ⟨rfl, h.j1, h.j2, h.j3, x, t⟩
theorem fWrite_no {m : FlashM} {a : Int} (v : BitVec 32) (h : fRefuse m a ≠ 0) : fWrite m a v = (m, fRefuse m a) := if_neg h
theorem fWrite_yes {m : FlashM} {i : Nat} (v : BitVec 32) (h : fRefuse m i = 0) : fWrite m i v = (fWriteDo m i v, 0) := if_pos h
theorem fWriteDo_busy {m : FlashM} (i : Nat) (v : BitVec 32) (h : m.job ≠ 0) : fWriteDo m i v = m := if_pos h
theorem fWriteDo_idle {m : FlashM} (i : Nat) (v : BitVec 32) (h : m.job = 0) (k : m.wait = 0) : fWriteDo m i v = fCommand { m with wait := 0, mode := 1 } (v &&& 255#32) := by
  unfold fWriteDo
  rw [if_neg (by simpa using h), if_neg (by simpa using k)]
  cases m
  simp only at k
  subst k
  unfold fCommand
  repeat' split
  all_goals rfl
theorem fWriteDo_program {m : FlashM} (i : Nat) (v : BitVec 32) (h : m.job = 0) (k : m.wait = 64) : fWriteDo m i v = fProgram { m with wait := 0, mode := 1 } i v := by
  unfold fWriteDo
  rw [if_neg (by simpa using h), if_pos (by rw [k]; decide)]
  unfold fWaited
  rw [if_pos k]
theorem fWriteDo_erase {m : FlashM} (i : Nat) (v : BitVec 32) (h : m.job = 0) (k : m.wait = 32) : fWriteDo m i v = fErase { m with wait := 0, mode := 1 } i (v &&& 255#32) := by
  unfold fWriteDo
  rw [if_neg (by simpa using h), if_pos (by rw [k]; decide)]
  unfold fWaited
  rw [if_neg (by rw [k]; decide), if_pos k]
theorem fWriteDo_lock {m : FlashM} (i : Nat) (v : BitVec 32) (h : m.job = 0) (k : m.wait = 96) : fWriteDo m i v = fLock { m with wait := 0, mode := 1 } i (v &&& 255#32) := by
  unfold fWriteDo
  rw [if_neg (by simpa using h), if_pos (by rw [k]; decide)]
  unfold fWaited
  rw [if_neg (by rw [k]; decide), if_neg (by rw [k]; decide)]
theorem FlashOk.len {k : Nat} {m : FlashM} (ok : FlashOk k m) : m.chip.ws.length ≤ 4096 := by
  have a := ok.chip.words
  have b := ok.chip.k2
  omega
set_option maxRecDepth 100000 in
set_option maxHeartbeats 2000000 in
theorem fwrite_any (h : Fh) (m : FlashM) (k : Nat) (a : Int) (v : BitVec 32) (w : World) (x : FlashAt w h m) (ok : FlashOk k m) :
    Calls Tryz.prog 78 #[.pointer (some ⟨h.f, 0, none⟩), .int .i64 a, .int .u32 (U v)] w (DidJ h (fWrite m a v) w) := by
  have hr := frefuse_any h m k a w x ok
  by_cases r0 : fRefuse m a = 0
  case neg =>
    have q : (fRefuse m a != 0) = true := by rw [bne_iff_ne]; exact r0
    have E := Lib.hid (fWrite_no v r0)
    have X := Lib.hid x
    have HR := Lib.hid hr
    clear x hr ok r0
    go_enter Tryz.func78, Tryz.ntmps78
    go_wp2_with (go_at_call 90; (with_reducible refine HR.out.mono ?_); rintro e w' ⟨rfl, rfl⟩)
    go_ret
    exact didJ_same X.out (Turned.refl _ _) E.out
  obtain ⟨_, a0, a1⟩ := fRefuse_zero r0
  obtain ⟨i, rfl⟩ := Int.eq_ofNat_of_zero_le a0
  have hi : i < 4096 := by have := ok.len; omega
  rw [r0] at hr
  have HR := Lib.hid hr
  have X := Lib.hid x
  rw [fWrite_yes v r0]
  by_cases j : m.job = 0
  case neg =>
    have hb := (ok.busy j).2.2.1
    rw [fWriteDo_busy i v j]
    have HB := Lib.hid hb
    clear x hr ok r0 a0 a1 hi j hb
    go_enter Tryz.func78, Tryz.ntmps78
    go_wp2_with (first
      | (go_at_call 90; (with_reducible refine HR.out.mono ?_); rintro e w' ⟨rfl, rfl⟩)
      | (go_at_call 91; (with_reducible refine (busy_yes _ _ _ X.out HB.out).mono ?_); rintro e w' ⟨rfl, rfl⟩))
    go_ret
    exact didJ_same X.out (Turned.refl _ _) rfl
  have hb := (ok.idle j).2.2
  have HB := Lib.hid hb
  have hll := ok.locks
  have g1 := x.own.cell 1
  have g2 := x.own.cell 2
  simp only [flCells, List.getElem?_cons_zero, List.getElem?_cons_succ] at g1 g2
  have f1 := x.own.frozen 1
  have f2 := x.own.frozen 2
  have xq : FlashAt ((w.setCell ⟨h.f, 2, none⟩ .nilFunc).setCell ⟨h.f, 1, none⟩ (.int .i64 1)) h { m with wait := 0, mode := 1 } := (x.putWait 0).putMode 1
  have tq : Turned h.own w ((w.setCell ⟨h.f, 2, none⟩ .nilFunc).setCell ⟨h.f, 1, none⟩ (.int .i64 1)) := turned_f (turned_f (Turned.refl _ _) _ _) _ _
  obtain ⟨W, hW⟩ : ∃ W, W = (w.setCell ⟨h.f, 2, none⟩ .nilFunc).setCell ⟨h.f, 1, none⟩ (.int .i64 1) := ⟨_, rfl⟩
  rw [← hW] at xq tq
  have TQ := Lib.hid tq
  have HW := Lib.hid hW
  clear hr r0 a0 a1 hb tq hW
  rcases ok.wait with e | e | e | e
  · rw [fWriteDo_idle i v j e]
    rw [e] at g2
    have hc := command_any h { m with wait := 0, mode := 1 } (v &&& 255#32) W xq rfl
    have HC := Lib.hid hc
    rw [show pendV 0 = .nilFunc from rfl] at g2
    clear hc e ok x xq j hll
    go_enter Tryz.func78, Tryz.ntmps78
    go_wp2_with (first
      | (go_at_call 90; (with_reducible refine HR.out.mono ?_); rintro e w' ⟨rfl, rfl⟩)
      | (go_at_call 91; (with_reducible refine (busy_no _ _ _ X.out HB.out).mono ?_); rintro e w' ⟨rfl, rfl⟩))
    rw [← HW.out]
    refine HC.out.mono ?_
    rintro e w1 ⟨rfl, j1, j2, j3, x1, t1⟩
    have X1 := Lib.hid x1
    have T1 := Lib.hid t1
    clear x1 t1
    go_wp2
    go_ret
    exact ⟨rfl, j1, j2, j3, X1.out, TQ.out.trans T1.out⟩
  · rw [fWriteDo_program i v j e]
    rw [e] at g2
    have hc := fprogram_any h { m with wait := 0, mode := 1 } i v W xq hi
    have HC := Lib.hid hc
    rw [show pendV 64 = .func (.func 105) #[] #[] from rfl] at g2
    clear hc e ok x xq j hll
    go_enter Tryz.func78, Tryz.ntmps78
    go_wp2_with (first
      | (go_at_call 90; (with_reducible refine HR.out.mono ?_); rintro e w' ⟨rfl, rfl⟩)
      | (go_at_call 91; (with_reducible refine (busy_no _ _ _ X.out HB.out).mono ?_); rintro e w' ⟨rfl, rfl⟩))
    rw [← HW.out]
    refine HC.out.mono ?_
    rintro e w1 ⟨rfl, j1, j2, j3, x1, t1⟩
    have X1 := Lib.hid x1
    have T1 := Lib.hid t1
    clear x1 t1
    go_wp2
    go_ret
    exact ⟨rfl, j1, j2, j3, X1.out, TQ.out.trans T1.out⟩
  · rw [fWriteDo_erase i v j e]
    rw [e] at g2
    have hc := ferase_any h { m with wait := 0, mode := 1 } i v W xq hi
    have HC := Lib.hid hc
    rw [show pendV 32 = .func (.func 106) #[] #[] from rfl] at g2
    clear hc e ok x xq j hll
    go_enter Tryz.func78, Tryz.ntmps78
    go_wp2_with (first
      | (go_at_call 90; (with_reducible refine HR.out.mono ?_); rintro e w' ⟨rfl, rfl⟩)
      | (go_at_call 91; (with_reducible refine (busy_no _ _ _ X.out HB.out).mono ?_); rintro e w' ⟨rfl, rfl⟩))
    rw [← HW.out]
    refine HC.out.mono ?_
    rintro e w1 ⟨rfl, j1, j2, j3, x1, t1⟩
    have X1 := Lib.hid x1
    have T1 := Lib.hid t1
    clear x1 t1
    go_wp2
    go_ret
    exact ⟨rfl, j1, j2, j3, X1.out, TQ.out.trans T1.out⟩
  · rw [fWriteDo_lock i v j e]
    rw [e] at g2
    have hc := flock_any h { m with wait := 0, mode := 1 } i v W xq hi hll
    have HC := Lib.hid hc
    rw [show pendV 96 = .func (.func 107) #[] #[] from rfl] at g2
    clear hc e ok x xq j hll
    go_enter Tryz.func78, Tryz.ntmps78
    go_wp2_with (first
      | (go_at_call 90; (with_reducible refine HR.out.mono ?_); rintro e w' ⟨rfl, rfl⟩)
      | (go_at_call 91; (with_reducible refine (busy_no _ _ _ X.out HB.out).mono ?_); rintro e w' ⟨rfl, rfl⟩))
    rw [← HW.out]
    refine HC.out.mono ?_
    rintro e w1 ⟨rfl, j1, j2, j3, x1, t1⟩
    have X1 := Lib.hid x1
    have T1 := Lib.hid t1
    clear x1 t1
    go_wp2
    go_ret
    exact ⟨rfl, j1, j2, j3, X1.out, TQ.out.trans T1.out⟩
end Go.Proofs.YtpkkejdjhnmjiaaGreat
namespace Go.Proofs.YtpkkejdjhnmjiaaGreat
open Go.RowKit Bm
def Said2 (r : BitVec 32 × Int) (w : World) (e : Ending) (w' : World) : Prop := e = .returned (.tuple #[.int .u32 (U r.1), .int .i64 r.2]) ∧ ∃ n, w' = w.drewN n
theorem said2_of {x : BitVec 32} {n : Int} {r : BitVec 32 × Int} (w : World) (k : Nat) (h : r = (x, n)) : Said2 r w (.returned (.tuple #[.int .u32 (U x), .int .i64 n])) (w.drewN k) := by
  subst h
  exact ⟨rfl, k, rfl⟩
theorem fRead_no {m : FlashM} {a : Int} (h : fRefuse m a ≠ 0) : fRead m a = (0#32, fRefuse m a) := if_neg h
theorem fRead_yes {m : FlashM} {i : Nat} (h : fRefuse m i = 0) : fRead m i = (fReadDo m i, 0) := if_pos h
theorem mRead_yes {m : FlashM} {i : Nat} (h : fRefuse m i = 0) : mRead m.chip i = (wd m.chip.ws i, 0) := if_pos h
set_option maxRecDepth 100000 in
set_option maxHeartbeats 2000000 in
theorem fread_any (h : Fh) (m : FlashM) (k : Nat) (a : Int) (w : World) (x : FlashAt w h m) (ok : FlashOk k m) :
    Calls Tryz.prog 80 #[.pointer (some ⟨h.f, 0, none⟩), .int .i64 a] w (Said2 (fRead m a) w) := by
  have hr := frefuse_any h m k a w x ok
  by_cases r0 : fRefuse m a = 0
  case neg =>
    have q : (fRefuse m a != 0) = true := by rw [bne_iff_ne]; exact r0
    have E := Lib.hid (fRead_no r0)
    have HR := Lib.hid hr
    clear x hr ok r0
    go_enter Tryz.func80, Tryz.ntmps80
    go_wp2_with (go_at_call 90; (with_reducible refine HR.out.mono ?_); rintro e w' ⟨rfl, rfl⟩)
    go_ret2
    exact said2_of _ 0 E.out
  obtain ⟨_, a0, a1⟩ := fRefuse_zero r0
  obtain ⟨i, rfl⟩ := Int.eq_ofNat_of_zero_le a0
  have hi : i < 4096 := by have := ok.len; omega
  have E := Lib.hid (fRead_yes r0)
  have hm := mRead_yes r0
  have hc := read_any h.c m.chip k i w x.chip ok.chip
  rw [hm] at hc
  dsimp only at hc
  rw [r0] at hr
  have HR := Lib.hid hr
  have HC := Lib.hid hc
  have X := Lib.hid x
  have g0 := x.own.cell 0
  have g1 := x.own.cell 1
  simp only [flCells, List.getElem?_cons_zero, List.getElem?_cons_succ] at g0 g1
  have hid := id_any h m i w x hi
  have hqu := query_any h m k i w x ok
  have hst := status_any h m k w x ok
  have HI := Lib.hid hid
  have HQ := Lib.hid hqu
  have HS := Lib.hid hst
  clear hr hc hm r0 a0 a1 hid hqu hst x hi
  rcases ok.mode with e | e | e | e
  · have D : Hid (fReadDo m i = wd m.chip.ws i) := Lib.hid (by unfold fReadDo; rw [if_pos e])
    rw [e] at g1
    clear e ok
    go_enter Tryz.func80, Tryz.ntmps80
    go_wp2_with (first
      | (go_at_call 90; (with_reducible refine HR.out.mono ?_); rintro e w' ⟨rfl, rfl⟩)
      | (go_at_call 93; (with_reducible refine HC.out.mono ?_); rintro e w' ⟨rfl, rfl⟩))
    go_ret2
    exact said2_of _ 0 (by rw [E.out, D.out])
  · have D : Hid (fReadDo m i = fStatus m) := Lib.hid (by unfold fReadDo; rw [if_neg (by rw [e]; decide), if_neg (by rw [e]; decide), if_neg (by rw [e]; decide)])
    rw [e] at g1
    clear e ok
    go_enter Tryz.func80, Tryz.ntmps80
    go_wp2_with (first
      | (go_at_call 90; (with_reducible refine HR.out.mono ?_); rintro e w' ⟨rfl, rfl⟩)
      | (go_at_call 96; (with_reducible refine HS.out.mono ?_); rintro e w' ⟨rfl, rfl⟩))
    go_ret2
    exact said2_of _ 0 (by rw [E.out, D.out])
  · have D : Hid (fReadDo m i = fId m i) := Lib.hid (by unfold fReadDo; rw [if_neg (by rw [e]; decide), if_pos e])
    rw [e] at g1
    clear e ok
    go_enter Tryz.func80, Tryz.ntmps80
    go_wp2_with (first
      | (go_at_call 90; (with_reducible refine HR.out.mono ?_); rintro e w' ⟨rfl, rfl⟩)
      | (go_at_call 94; (with_reducible refine HI.out.mono ?_); rintro e w' ⟨rfl, nq, rfl⟩))
    go_ret2
    exact said2_of _ nq (by rw [E.out, D.out])
  · have D : Hid (fReadDo m i = fQuery m i) := Lib.hid (by unfold fReadDo; rw [if_neg (by rw [e]; decide), if_neg (by rw [e]; decide), if_pos e])
    rw [e] at g1
    clear e ok
    go_enter Tryz.func80, Tryz.ntmps80
    go_wp2_with (first
      | (go_at_call 90; (with_reducible refine HR.out.mono ?_); rintro e w' ⟨rfl, rfl⟩)
      | (go_at_call 95; (with_reducible refine HQ.out.mono ?_); rintro e w' ⟨rfl, rfl⟩))
    go_ret2
    exact said2_of _ 0 (by rw [E.out, D.out])
theorem did_same {h : Fh} {m : FlashM} {n : Int} {w w' : World} (x : FlashAt w' h m) (t : Turned h.own w w') {r : FlashM × Int} (hr : r = (m, n)) : Did h r w (.returned (.int .i64 n)) w' := by
  subst hr
  exact ⟨rfl, x, t⟩
set_option maxRecDepth 100000 in
set_option maxHeartbeats 2000000 in
theorem ftick_any (h : Fh) (m : FlashM) (k : Nat) (n : Int) (w : World) (x : FlashAt w h m) (ok : FlashOk k m) (b0 : -9223372036854775808 ≤ n) (b1 : n ≤ 9223372036854775807) :
    Calls Tryz.prog 102 #[.pointer (some ⟨h.f, 0, none⟩), .int .i64 n] w (Did h (fTick m n) w) := by
  have hr := frefuse_any h m k 0 w x ok
  have X := Lib.hid x
  by_cases r0 : fRefuse m 0 = 0
  case neg =>
    have q : (fRefuse m 0 != 0) = true := by rw [bne_iff_ne]; exact r0
    have E : Hid (fTick m n = (m, fRefuse m 0)) := Lib.hid (by unfold fTick; rw [if_pos r0])
    have HR := Lib.hid hr
    clear x hr ok r0
    go_enter Tryz.func102, Tryz.ntmps102
    go_wp2_with (go_at_call 90; (with_reducible refine HR.out.mono ?_); rintro e w' ⟨rfl, rfl⟩)
    go_ret
    exact did_same X.out (Turned.refl _ _) E.out
  rw [r0] at hr
  have HR := Lib.hid hr
  have e0 : ¬ fRefuse m 0 ≠ 0 := fun e => e r0
  by_cases h1 : n < 0
  · have E : Hid (fTick m n = (m, 2)) := Lib.hid (by unfold fTick; rw [if_neg e0, if_pos h1])
    clear x hr ok r0 e0
    go_enter Tryz.func102, Tryz.ntmps102
    go_wp2_with (go_at_call 90; (with_reducible refine HR.out.mono ?_); rintro e w' ⟨rfl, rfl⟩)
    go_ret
    exact did_same X.out (Turned.refl _ _) E.out
  by_cases j : m.job = 0
  · have E : Hid (fTick m n = (m, 0)) := Lib.hid (by unfold fTick; rw [if_neg e0, if_neg h1, if_pos j])
    have hb := (ok.idle j).2.2
    have HB := Lib.hid hb
    clear x hr ok r0 e0 j hb
    go_enter Tryz.func102, Tryz.ntmps102
    go_wp2_with (first
      | (go_at_call 90; (with_reducible refine HR.out.mono ?_); rintro e w' ⟨rfl, rfl⟩)
      | (go_at_call 91; (with_reducible refine (busy_no _ _ _ X.out HB.out).mono ?_); rintro e w' ⟨rfl, rfl⟩))
    go_ret
    exact did_same X.out (Turned.refl _ _) E.out
  have hb := (ok.busy j).2.2.1
  have hb2 := (ok.busy j).2.2.2
  have HB := Lib.hid hb
  have g5 := x.own.cell 5
  simp only [flCells, List.getElem?_cons_zero, List.getElem?_cons_succ] at g5
  have f5 := x.own.frozen 5
  by_cases hn : n < m.left
  · have E : Hid (fTick m n = ({ m with left := m.left - n }, 0)) := Lib.hid (by unfold fTick; rw [if_neg e0, if_neg h1, if_neg j, if_pos hn])
    clear x hr ok r0 e0 j
    go_enter Tryz.func102, Tryz.ntmps102
    go_wp2_with (first
      | (go_at_call 90; (with_reducible refine HR.out.mono ?_); rintro e w' ⟨rfl, rfl⟩)
      | (go_at_call 91; (with_reducible refine (busy_yes _ _ _ X.out HB.out).mono ?_); rintro e w' ⟨rfl, rfl⟩))
    go_ret
    exact did_same (X.out.putLeft _) (turned_f (Turned.refl _ _) _ _) E.out
  · have E : Hid (fTick m n = fDone m) := Lib.hid (by unfold fTick; rw [if_neg e0, if_neg h1, if_neg j, if_neg hn])
    have hx := execute_any h m k w x ok j
    have HX := Lib.hid hx
    clear x hr ok r0 e0 j hx
    go_enter Tryz.func102, Tryz.ntmps102
    go_wp2_with (first
      | (go_at_call 90; (with_reducible refine HR.out.mono ?_); rintro e w' ⟨rfl, rfl⟩)
      | (go_at_call 91; (with_reducible refine (busy_yes _ _ _ X.out HB.out).mono ?_); rintro e w' ⟨rfl, rfl⟩)
      | (go_at_call 111; (with_reducible refine HX.out.mono ?_); rintro e w1 ⟨rfl, x1, t1⟩))
    go_ret
    rw [E.out]
    exact ⟨rfl, x1, t1⟩
end Go.Proofs.YtpkkejdjhnmjiaaGreat
namespace Go.Proofs.YtpkkejdjhnmjiaaGreat
open Go.RowKit Bm
theorem made_raw (h : Fh) (cs : List Value) (w : World) (x : At w h.f 98 (.pointer (some ⟨h.c.p, 0, none⟩) :: cs)) :
    Calls Tryz.prog 46 #[.pointer (some ⟨h.f, 0, none⟩)] w fun e w' => e = .returned (.bool true) ∧ w' = w := by
  have g := x.cell 0
  simp only [List.getElem?_cons_zero] at g
  clear x
  go_enter Tryz.func46, Tryz.ntmps46
  go_wp2
  go_ret
  exact ⟨rfl, rfl⟩
def Renewed (h : Fh) (c : ChipM) (w : World) (e : Ending) (w' : World) : Prop :=
  e = .returned (.tuple #[]) ∧ FlashAt w' { h with l := w.heap.size } (fNew c) ∧ Turned (Just h.f) w w'
def sets7 (w : World) (f p l : Nat) : World :=
  ((((((w.setCell ⟨f, 0, none⟩ (.pointer (some ⟨p, 0, none⟩))).setCell ⟨f, 1, none⟩ (.int .i64 0)).setCell ⟨f, 2, none⟩ .nilFunc).setCell ⟨f, 3, none⟩ (.int .u32 0)).setCell ⟨f, 4, none⟩ (.map (some l))).setCell ⟨f, 5, none⟩ (.int .i64 0)).setCell ⟨f, 6, none⟩ .nilFunc
theorem sets7_turned (w : World) (f p l : Nat) : Turned (Just f) w (sets7 w f p l) :=
  (((((((Turned.refl (Just f) w).setCell (p := ⟨f, 0, none⟩) (fun _ => rfl) _).setCell (p := ⟨f, 1, none⟩) (fun _ => rfl) _).setCell (p := ⟨f, 2, none⟩) (fun _ => rfl) _).setCell (p := ⟨f, 3, none⟩) (fun _ => rfl) _).setCell (p := ⟨f, 4, none⟩) (fun _ => rfl) _).setCell (p := ⟨f, 5, none⟩) (fun _ => rfl) _).setCell (p := ⟨f, 6, none⟩) (fun _ => rfl) _
theorem sets7_at {w : World} {f p l : Nat} {t : TypeId} {v0 v1 v2 v3 v4 v5 v6 : Value} (x : At w f t [v0, v1, v2, v3, v4, v5, v6]) :
    At (sets7 w f p l) f t [.pointer (some ⟨p, 0, none⟩), .int .i64 0, .nilFunc, .int .u32 0, .map (some l), .int .i64 0, .nilFunc] :=
  (((((((x.put 0 _).put 1 _).put 2 _).put 3 _).put 4 _).put 5 _).put 6 _).as rfl
theorem sets7_size (w : World) (f p l : Nat) : (sets7 w f p l).heap.size = w.heap.size := by simp [sets7, World.setCell]
theorem renewed_mk {w : World} {h : Fh} {c : ChipM} {v0 v1 v2 v3 v4 v5 v6 : Value} (hc : ChipAt w h.c c) (x : At w h.f 98 [v0, v1, v2, v3, v4, v5, v6]) :
    Renewed h c w (.returned (.tuple #[])) ((sets7 w h.f h.c.p w.heap.size).alloc (.map #[] 0)) := by
  have t := sets7_turned w h.f h.c.p w.heap.size
  have n1 : h.f ≠ h.c.p := x.ne hc.own (by decide)
  have n2 : h.f ≠ h.c.bw := x.ne hc.words (by decide)
  have n3 : h.f ≠ h.c.be := x.ne hc.wear (by decide)
  have l := LocksAt.news (sets7 w h.f h.c.p w.heap.size)
  rw [sets7_size] at l
  exact ⟨rfl, ⟨(hc.kept t (by rintro i (e | e | e) e2 <;> unfold Just at e2 <;> omega)).alloc _, ((sets7_at x).alloc _).as rfl, l, ⟨fun e => (by cases e), fun e => (by cases e)⟩⟩, t.alloc _⟩
set_option maxRecDepth 100000 in
set_option maxHeartbeats 2000000 in
theorem reset_raw (h : Fh) (c : ChipM) (v1 v2 v3 v4 v5 v6 : Value) (w : World) (hc : ChipAt w h.c c) (x : At w h.f 98 [.pointer (some ⟨h.c.p, 0, none⟩), v1, v2, v3, v4, v5, v6]) :
    Calls Tryz.prog 31 #[.pointer (some ⟨h.f, 0, none⟩)] w (Renewed h c w) := by
  have g0 := x.cell 0
  have g1 := x.cell 1
  have g2 := x.cell 2
  have g3 := x.cell 3
  have g4 := x.cell 4
  have g5 := x.cell 5
  have g6 := x.cell 6
  simp only [List.getElem?_cons_zero, List.getElem?_cons_succ] at g0 g1 g2 g3 g4 g5 g6
  have f0 := x.frozen 0
  have f1 := x.frozen 1
  have f2 := x.frozen 2
  have f3 := x.frozen 3
  have f4 := x.frozen 4
  have f5 := x.frozen 5
  have f6 := x.frozen 6
  have hmm := @run_makeMap Tryz.prog
  have hf := x.lt
  have hne : h.f ≠ w.heap.size := by omega
  have X := Lib.hid x
  have HC := Lib.hid hc
  clear x hc
  go_enter Tryz.func31, Tryz.ntmps31
  go_wp2_with (go_at_call 46; (with_reducible refine (made_raw _ _ _ X.out).mono ?_); rintro e w' ⟨rfl, rfl⟩)
  go_end0
  exact renewed_mk HC.out X.out
def MadeFlash (w : World) (c : ChipM) (h : Hd) (e : Ending) (w' : World) : Prop :=
  ∃ f l, e = .returned (.pointer (some ⟨f, 0, none⟩)) ∧ FlashAt w' ⟨h, f, l, 0, 0, 0⟩ (fNew c) ∧ w.heap.size ≤ f ∧ w.heap.size ≤ l ∧ Below w.heap.size w w'
set_option maxRecDepth 100000 in
set_option maxHeartbeats 2000000 in
theorem fnew_any (h : Hd) (c : ChipM) (w : World) (hc : ChipAt w h c) (h1 : 1 ≤ c.wear.length) :
    Calls Tryz.prog 14 #[.pointer (some ⟨h.p, 0, none⟩)] w (MadeFlash w c h) := by
  have z : ((c.wear.length : Int) == 0) = false := by rw [beq_eq_false_iff_ne]; omega
  have HC := Lib.hid hc
  clear hc h1
  go_enter Tryz.func14, Tryz.ntmps14
  go_wp2_with (go_at_call 30; (with_reducible refine (blocks_any _ _ _ HC.out).mono ?_); rintro e w' ⟨rfl, rfl⟩)
  have hx := reset_raw ⟨h, w'.heap.size, 0, 0, 0, 0⟩ c (.int .i64 0) .nilFunc (.int .u32 0) (.map none) (.int .i64 0) .nilFunc _ (HC.out.alloc (.cells #[.pointer (some ⟨h.p, 0, none⟩), .int .i64 0, .nilFunc, .int .u32 0, .map none, .int .i64 0, .nilFunc] 98)) (At.alloc_new _ _ _ rfl rfl)
  refine hx.mono ?_
  rintro e w1 ⟨rfl, x1, t1⟩
  have X1 := Lib.hid x1
  have T1 := Lib.hid t1
  clear hx x1 t1
  go_wp2
  go_ret
  refine ⟨_, _, rfl, X1.out, Nat.le_refl _, by rw [World.size_alloc]; omega, ?_⟩
  exact (((Turned.refl NoBlock w').alloc _).after T1.out (fun i hi e => by unfold Just at e; omega)).below (fun _ h => h.elim) (Nat.le_refl _)
end Go.Proofs.YtpkkejdjhnmjiaaGreat
