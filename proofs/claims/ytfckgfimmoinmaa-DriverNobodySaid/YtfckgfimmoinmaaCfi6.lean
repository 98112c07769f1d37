/- Contracts of package cfi: the functions of a job, and its execution. -/
import Derived.Test.YtfckgfimmoinmaaCfi5
namespace Go.Proofs.Ytfckgfimmoinmaa
open Go.RowKit Bm

theorem FlashAt.chipTo {w w' : World} {h : Fh} {m : FlashM} (x : FlashAt w h m) {c : ChipM} (t : Turned h.c.own w w') (hc : ChipAt w' h.c c) : FlashAt w' h { m with chip := c } :=
  ⟨hc, x.own.kept t x.fc, x.locks.kept t x.lc,
   ⟨fun j => by
      obtain ⟨a, b, c, d⟩ := x.job.prog j
      exact ⟨a.kept t (fun e => d _ e (.inl rfl)), b.kept t (fun e => d _ e (.inr (.inl rfl))), c.kept t (fun e => d _ e (.inr (.inr rfl))), d⟩,
    fun j => by
      obtain ⟨a, b, d⟩ := x.job.erase j
      exact ⟨a.kept t (fun e => (d _ e).1 rfl), b.kept t (fun e => (d _ e).2 rfl), d⟩⟩⟩
theorem turned_c {h : Fh} {w w' : World} (t : Turned h.c.own w w') : Turned h.own w w' := t.mono fun _ _ e => .inl e

/-- What a job's function leaves. -/
def JobOut (h : Fh) (c : ChipM) (n : Int) (w : World) (e : Ending) (w' : World) : Prop := e = .returned (.int .i64 n) ∧ ChipAt w' h.c c ∧ Turned h.c.own w w'

set_option maxRecDepth 100000 in
set_option maxHeartbeats 1000000 in
theorem prog1_any (h : Fh) (c : ChipM) (k i : Nat) (v : BitVec 32) (cs : List Value) (w : World) (hc : ChipAt w h.c c) (ok : ChipOk k c) (hf : At w h.f 97 (.pointer (some ⟨h.c.p, 0, none⟩) :: cs))
    (a1 : At w h.j1 26 [.pointer (some ⟨h.f, 0, none⟩)]) (a2 : At w h.j2 3 [.int .i64 (i : Int)]) (a3 : At w h.j3 33 [.int .u32 (U v)]) :
    Calls Try.prog 90 #[.pointer (some ⟨h.j1, 0, none⟩), .pointer (some ⟨h.j2, 0, none⟩), .pointer (some ⟨h.j3, 0, none⟩)] w (JobOut h (mProgram c i v).1 (mProgram c i v).2 w) := by
  have g0 := hf.cell 0
  have c1 := a1.cell 0
  have c2 := a2.cell 0
  have c3 := a3.cell 0
  simp only [List.getElem?_cons_zero] at g0 c1 c2 c3
  have hp := program_any h.c c k i v w.drew ⟨hc.own, hc.words, hc.wear, hc.room, hc.cap⟩ ok
  have HP := Lib.hid hp
  clear hp hf a1 a2 a3 hc ok
  go_enter Try.func90, Try.ntmps90
  go_wp2
  refine wp_region_still_tail 6 (by kernel_rfl) (by kernel_rfl) ?_
  simp only [List.take_succ_cons, List.take_zero, List.drop_succ_cons, List.drop_zero]
  change wpStill _ _ (World.drew _) _ _ _
  repeat still_step
  refine wpStill_nil ?_
  change wpList _ _ _ _ _ (World.drew _)
  go_wp2_with (go_at_call 91; (with_reducible refine HP.out.mono ?_); rintro e w1 ⟨rfl, hc1, ht1⟩)
  go_ret
  exact ⟨rfl, hc1, ((Turned.refl _ w).drew).trans ht1⟩

set_option maxRecDepth 100000 in
set_option maxHeartbeats 1000000 in
theorem erase1_any (h : Fh) (c : ChipM) (k i : Nat) (cs : List Value) (w : World) (hc : ChipAt w h.c c) (ok : ChipOk k c) (hf : At w h.f 97 (.pointer (some ⟨h.c.p, 0, none⟩) :: cs))
    (a1 : At w h.j1 26 [.pointer (some ⟨h.f, 0, none⟩)]) (a2 : At w h.j2 3 [.int .i64 (i : Int)]) :
    Calls Try.prog 92 #[.pointer (some ⟨h.j1, 0, none⟩), .pointer (some ⟨h.j2, 0, none⟩)] w (JobOut h (mErase c i).1 (mErase c i).2 w) := by
  have g0 := hf.cell 0
  have c1 := a1.cell 0
  have c2 := a2.cell 0
  simp only [List.getElem?_cons_zero] at g0 c1 c2
  have hp := erase_any h.c c k i w.drew ⟨hc.own, hc.words, hc.wear, hc.room, hc.cap⟩ ok
  have HP := Lib.hid hp
  clear hp hf a1 a2 hc ok
  go_enter Try.func92, Try.ntmps92
  go_wp2
  refine wp_region_still_tail 5 (by kernel_rfl) (by kernel_rfl) ?_
  simp only [List.take_succ_cons, List.take_zero, List.drop_succ_cons, List.drop_zero]
  change wpStill _ _ (World.drew _) _ _ _
  repeat still_step
  refine wpStill_nil ?_
  change wpList _ _ _ _ _ (World.drew _)
  go_wp2_with (go_at_call 93; (with_reducible refine HP.out.mono ?_); rintro e w1 ⟨rfl, hc1, ht1⟩)
  go_ret
  exact ⟨rfl, hc1, ((Turned.refl _ w).drew).trans ht1⟩

/-- The flash behind a call, and what it answered. -/
def Did (h : Fh) (r : FlashM × Int) (w : World) (e : Ending) (w' : World) : Prop := e = .returned (.int .i64 r.2) ∧ FlashAt w' h r.1 ∧ Turned h.own w w'

/-- The job is gone: the two cells are set back. -/
theorem FlashAt.quit {w : World} {h : Fh} {m : FlashM} (x : FlashAt w h m) : FlashAt ((w.setCell ⟨h.f, 5, none⟩ (.int .i64 0)).setCell ⟨h.f, 6, none⟩ .nilFunc) h (fIdle m m.chip) :=
  x.begin h (fIdle m m.chip) .nilFunc rfl rfl rfl rfl rfl rfl ⟨fun e => (by cases e), fun e => (by cases e)⟩

set_option maxRecDepth 100000 in
set_option maxHeartbeats 2000000 in
theorem execute_any (h : Fh) (m : FlashM) (k : Nat) (w : World) (x : FlashAt w h m) (ok : FlashOk k m) (hj : m.job ≠ 0) :
    Calls Try.prog 68 #[.pointer (some ⟨h.f, 0, none⟩)] w (Did h (fDone m) w) := by
  have g5 := x.own.cell 5
  have g6 := x.own.cell 6
  simp only [flCells, List.getElem?_cons_zero, List.getElem?_cons_succ] at g5 g6
  have f5 := x.own.frozen 5
  have f6 := x.own.frozen 6
  have xq := x.quit
  have tq : Turned h.own w ((w.setCell ⟨h.f, 5, none⟩ (.int .i64 0)).setCell ⟨h.f, 6, none⟩ .nilFunc) := turned_f (turned_f (Turned.refl _ _) _ _) _ _
  obtain ⟨W, hW⟩ : ∃ W, W = (w.setCell ⟨h.f, 5, none⟩ (.int .i64 0)).setCell ⟨h.f, 6, none⟩ .nilFunc := ⟨_, rfl⟩
  rw [← hW] at xq tq
  have call : ∃ (f : Nat) (vs : Array Value), actV h m.job = .func (.func f) #[] vs ∧ Calls Try.prog f vs W (JobOut h (fJob m).1 (fJob m).2 W) ∧ (f = 90 ∨ f = 92) := by
    rcases ok.job with e | e | e
    · exact absurd e hj
    · obtain ⟨a1, a2, a3, d⟩ := x.job.prog e
      have n1 := a1.ne x.own (by decide)
      have n2 := a2.ne x.own (by decide)
      have n3 := a3.ne x.own (by decide)
      refine ⟨_, _, by rw [actV, if_pos e], ?_, .inl rfl⟩
      unfold fJob
      rw [if_pos e]
      refine prog1_any h m.chip k m.at_ m.v _ W xq.chip ok.chip xq.own ?_ ?_ ?_
      · rw [hW]; exact (a1.far (p := ⟨h.f, 5, none⟩) n1 _).far (p := ⟨h.f, 6, none⟩) n1 _
      · rw [hW]; exact (a2.far (p := ⟨h.f, 5, none⟩) n2 _).far (p := ⟨h.f, 6, none⟩) n2 _
      · rw [hW]; exact (a3.far (p := ⟨h.f, 5, none⟩) n3 _).far (p := ⟨h.f, 6, none⟩) n3 _
    · obtain ⟨a1, a2, d⟩ := x.job.erase e
      have n1 := a1.ne x.own (by decide)
      have n2 := a2.ne x.own (by decide)
      have e' : m.job ≠ 64 := by rw [e]; decide
      refine ⟨_, _, by rw [actV, if_neg e', if_pos e], ?_, .inr rfl⟩
      unfold fJob
      rw [if_neg e']
      refine erase1_any h m.chip k m.at_ _ W xq.chip ok.chip xq.own ?_ ?_
      · rw [hW]; exact (a1.far (p := ⟨h.f, 5, none⟩) n1 _).far (p := ⟨h.f, 6, none⟩) n1 _
      · rw [hW]; exact (a2.far (p := ⟨h.f, 5, none⟩) n2 _).far (p := ⟨h.f, 6, none⟩) n2 _
  obtain ⟨f, vs, ha, hcall, hff⟩ := call
  rw [ha] at g6
  have HC := Lib.hid hcall
  have HW := Lib.hid hW
  have XQ := Lib.hid xq
  have TQ := Lib.hid tq
  clear x hj ok ha hW xq tq hcall
  unfold fDone
  by_cases h5 : (fJob m).2 = 5
  · rw [if_pos h5]
    have q : ((fJob m).2 == 5) = true := by rw [beq_iff_eq]; exact h5
    clear h5
    rcases hff with rfl | rfl
    all_goals
      go_enter Try.func68, Try.ntmps68
      go_wp2_with fail
      rw [← HW.out]
      refine HC.out.mono ?_
      rintro e w1 ⟨rfl, hc1, ht1⟩
      have x1 := XQ.out.chipTo ht1 hc1
      have g3 := x1.own.cell 3
      simp only [flCells, List.getElem?_cons_zero, List.getElem?_cons_succ] at g3
      have f3 := x1.own.frozen 3
      have X1 := Lib.hid x1
      have T1 := Lib.hid ht1
      clear x1 hc1 ht1
      go_wp2
      go_ret
      exact ⟨rfl, X1.out.putErrors _, turned_f (TQ.out.trans (turned_c T1.out)) _ _⟩
  · rw [if_neg h5]
    have q : ((fJob m).2 == 5) = false := by rw [beq_eq_false_iff_ne]; exact h5
    clear h5
    rcases hff with rfl | rfl
    all_goals
      go_enter Try.func68, Try.ntmps68
      go_wp2_with fail
      rw [← HW.out]
      refine HC.out.mono ?_
      rintro e w1 ⟨rfl, hc1, ht1⟩
      have x1 := XQ.out.chipTo ht1 hc1
      have X1 := Lib.hid x1
      have T1 := Lib.hid ht1
      clear x1 hc1 ht1
      go_wp2
      go_ret
      exact ⟨rfl, X1.out, TQ.out.trans (turned_c T1.out)⟩
end Go.Proofs.Ytfckgfimmoinmaa
