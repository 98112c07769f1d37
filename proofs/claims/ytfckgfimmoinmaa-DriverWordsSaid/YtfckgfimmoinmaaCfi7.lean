/- The contracts of package cfi's calls: Write, Read, Tick. -/
import Derived.Test.YtfckgfimmoinmaaCfi6
namespace Go.Proofs.Ytfckgfimmoinmaa
open Go.RowKit Bm

@[local go_sem] theorem neq_func (f : Fn) (a b : Array Value) (w : World) : Sem.run Try.prog (binOp BinOp.neq 92 (.func f a b) .nilFunc) w = .ok (.bool true) w := by kernel_rfl
@[local go_sem] theorem neq_nil (w : World) : Sem.run Try.prog (binOp BinOp.neq 92 .nilFunc .nilFunc) w = .ok (.bool false) w := by kernel_rfl

/-- The flash behind a call, and what it answered; its job may have new variables. -/
def DidJ (h : Fh) (r : FlashM × Int) (w : World) (e : Ending) (w' : World) : Prop := e = .returned (.int .i64 r.2) ∧ ∃ j1 j2 j3, FlashAt w' { h with j1 := j1, j2 := j2, j3 := j3 } r.1 ∧ Turned h.own w w'
theorem didJ_same {h : Fh} {m : FlashM} {n : Int} {w w' : World} (x : FlashAt w' h m) (t : Turned h.own w w') {r : FlashM × Int} (hr : r = (m, n)) : DidJ h r w (.returned (.int .i64 n)) w' := by
  subst hr
  exact ⟨rfl, h.j1, h.j2, h.j3, x, t⟩

theorem fWrite_no {m : FlashM} {a : Int} (v : BitVec 32) (h : fRefuse m a ≠ 0) : fWrite m a v = (m, fRefuse m a) := if_neg h
theorem fWrite_yes {m : FlashM} {i : Nat} (v : BitVec 32) (h : fRefuse m i = 0) : fWrite m i v = (fWriteDo m i v, 0) := if_pos h
theorem fWriteDo_busy {m : FlashM} (i : Nat) (v : BitVec 32) (h : m.job ≠ 0) : fWriteDo m i v = m := if_pos h
theorem fWriteDo_idle {m : FlashM} (i : Nat) (v : BitVec 32) (h : m.job = 0) (k : m.wait = 0) : fWriteDo m i v = fCommand { m with wait := 0, mode := 1 } (v &&& 255#32) := by
  unfold fWriteDo
  rw [if_neg (by simpa using h), if_neg (by simpa using k)]
  cases m
  simp only at k
  subst k
  unfold fCommand
  repeat' split
  all_goals rfl
theorem fWriteDo_program {m : FlashM} (i : Nat) (v : BitVec 32) (h : m.job = 0) (k : m.wait = 64) : fWriteDo m i v = fProgram { m with wait := 0, mode := 1 } i v := by
  unfold fWriteDo
  rw [if_neg (by simpa using h), if_pos (by rw [k]; decide)]
  unfold fWaited
  rw [if_pos k]
theorem fWriteDo_erase {m : FlashM} (i : Nat) (v : BitVec 32) (h : m.job = 0) (k : m.wait = 32) : fWriteDo m i v = fErase { m with wait := 0, mode := 1 } i (v &&& 255#32) := by
  unfold fWriteDo
  rw [if_neg (by simpa using h), if_pos (by rw [k]; decide)]
  unfold fWaited
  rw [if_neg (by rw [k]; decide), if_pos k]
theorem fWriteDo_lock {m : FlashM} (i : Nat) (v : BitVec 32) (h : m.job = 0) (k : m.wait = 96) : fWriteDo m i v = fLock { m with wait := 0, mode := 1 } i (v &&& 255#32) := by
  unfold fWriteDo
  rw [if_neg (by simpa using h), if_pos (by rw [k]; decide)]
  unfold fWaited
  rw [if_neg (by rw [k]; decide), if_neg (by rw [k]; decide)]

theorem FlashOk.len {k : Nat} {m : FlashM} (ok : FlashOk k m) : m.chip.ws.length ≤ 4096 := by
  have a := ok.chip.words
  have b := ok.chip.k2
  omega

set_option maxRecDepth 100000 in
set_option maxHeartbeats 2000000 in
theorem fwrite_any (h : Fh) (m : FlashM) (k : Nat) (a : Int) (v : BitVec 32) (w : World) (x : FlashAt w h m) (ok : FlashOk k m) :
    Calls Try.prog 55 #[.pointer (some ⟨h.f, 0, none⟩), .int .i64 a, .int .u32 (U v)] w (DidJ h (fWrite m a v) w) := by
  have hr := frefuse_any h m k a w x ok
  by_cases r0 : fRefuse m a = 0
  case neg =>
    have q : (fRefuse m a != 0) = true := by rw [bne_iff_ne]; exact r0
    have E := Lib.hid (fWrite_no v r0)
    have X := Lib.hid x
    have HR := Lib.hid hr
    clear x hr ok r0
    go_enter Try.func55, Try.ntmps55
    go_wp2_with (go_at_call 65; (with_reducible refine HR.out.mono ?_); rintro e w' ⟨rfl, rfl⟩)
    go_ret
    exact didJ_same X.out (Turned.refl _ _) E.out
  obtain ⟨_, a0, a1⟩ := fRefuse_zero r0
  obtain ⟨i, rfl⟩ := Int.eq_ofNat_of_zero_le a0
  have hi : i < 4096 := by have := ok.len; omega
  rw [r0] at hr
  have HR := Lib.hid hr
  have X := Lib.hid x
  rw [fWrite_yes v r0]
  by_cases j : m.job = 0
  case neg =>
    have hb := (ok.busy j).2.2.1
    rw [fWriteDo_busy i v j]
    have HB := Lib.hid hb
    clear x hr ok r0 a0 a1 hi j hb
    go_enter Try.func55, Try.ntmps55
    go_wp2_with (first
      | (go_at_call 65; (with_reducible refine HR.out.mono ?_); rintro e w' ⟨rfl, rfl⟩)
      | (go_at_call 66; (with_reducible refine (busy_yes _ _ _ X.out HB.out).mono ?_); rintro e w' ⟨rfl, rfl⟩))
    go_ret
    exact didJ_same X.out (Turned.refl _ _) rfl
  have hb := (ok.idle j).2.2
  have HB := Lib.hid hb
  have hll := ok.locks
  have g1 := x.own.cell 1
  have g2 := x.own.cell 2
  simp only [flCells, List.getElem?_cons_zero, List.getElem?_cons_succ] at g1 g2
  have f1 := x.own.frozen 1
  have f2 := x.own.frozen 2
  have xq : FlashAt ((w.setCell ⟨h.f, 2, none⟩ .nilFunc).setCell ⟨h.f, 1, none⟩ (.int .i64 1)) h { m with wait := 0, mode := 1 } := (x.putWait 0).putMode 1
  have tq : Turned h.own w ((w.setCell ⟨h.f, 2, none⟩ .nilFunc).setCell ⟨h.f, 1, none⟩ (.int .i64 1)) := turned_f (turned_f (Turned.refl _ _) _ _) _ _
  obtain ⟨W, hW⟩ : ∃ W, W = (w.setCell ⟨h.f, 2, none⟩ .nilFunc).setCell ⟨h.f, 1, none⟩ (.int .i64 1) := ⟨_, rfl⟩
  rw [← hW] at xq tq
  have TQ := Lib.hid tq
  have HW := Lib.hid hW
  clear hr r0 a0 a1 hb tq hW
  rcases ok.wait with e | e | e | e
  · rw [fWriteDo_idle i v j e]
    rw [e] at g2
    have hc := command_any h { m with wait := 0, mode := 1 } (v &&& 255#32) W xq rfl
    have HC := Lib.hid hc
    rw [show pendV 0 = .nilFunc from rfl] at g2
    clear hc e ok x xq j hll
    go_enter Try.func55, Try.ntmps55
    go_wp2_with (first
      | (go_at_call 65; (with_reducible refine HR.out.mono ?_); rintro e w' ⟨rfl, rfl⟩)
      | (go_at_call 66; (with_reducible refine (busy_no _ _ _ X.out HB.out).mono ?_); rintro e w' ⟨rfl, rfl⟩))
    rw [← HW.out]
    refine HC.out.mono ?_
    rintro e w1 ⟨rfl, j1, j2, j3, x1, t1⟩
    have X1 := Lib.hid x1
    have T1 := Lib.hid t1
    clear x1 t1
    go_wp2
    go_ret
    exact ⟨rfl, j1, j2, j3, X1.out, TQ.out.trans T1.out⟩
  · rw [fWriteDo_program i v j e]
    rw [e] at g2
    have hc := fprogram_any h { m with wait := 0, mode := 1 } i v W xq hi
    have HC := Lib.hid hc
    rw [show pendV 64 = .func (.func 78) #[] #[] from rfl] at g2
    clear hc e ok x xq j hll
    go_enter Try.func55, Try.ntmps55
    go_wp2_with (first
      | (go_at_call 65; (with_reducible refine HR.out.mono ?_); rintro e w' ⟨rfl, rfl⟩)
      | (go_at_call 66; (with_reducible refine (busy_no _ _ _ X.out HB.out).mono ?_); rintro e w' ⟨rfl, rfl⟩))
    rw [← HW.out]
    refine HC.out.mono ?_
    rintro e w1 ⟨rfl, j1, j2, j3, x1, t1⟩
    have X1 := Lib.hid x1
    have T1 := Lib.hid t1
    clear x1 t1
    go_wp2
    go_ret
    exact ⟨rfl, j1, j2, j3, X1.out, TQ.out.trans T1.out⟩
  · rw [fWriteDo_erase i v j e]
    rw [e] at g2
    have hc := ferase_any h { m with wait := 0, mode := 1 } i v W xq hi
    have HC := Lib.hid hc
    rw [show pendV 32 = .func (.func 79) #[] #[] from rfl] at g2
    clear hc e ok x xq j hll
    go_enter Try.func55, Try.ntmps55
    go_wp2_with (first
      | (go_at_call 65; (with_reducible refine HR.out.mono ?_); rintro e w' ⟨rfl, rfl⟩)
      | (go_at_call 66; (with_reducible refine (busy_no _ _ _ X.out HB.out).mono ?_); rintro e w' ⟨rfl, rfl⟩))
    rw [← HW.out]
    refine HC.out.mono ?_
    rintro e w1 ⟨rfl, j1, j2, j3, x1, t1⟩
    have X1 := Lib.hid x1
    have T1 := Lib.hid t1
    clear x1 t1
    go_wp2
    go_ret
    exact ⟨rfl, j1, j2, j3, X1.out, TQ.out.trans T1.out⟩
  · rw [fWriteDo_lock i v j e]
    rw [e] at g2
    have hc := flock_any h { m with wait := 0, mode := 1 } i v W xq hi hll
    have HC := Lib.hid hc
    rw [show pendV 96 = .func (.func 80) #[] #[] from rfl] at g2
    clear hc e ok x xq j hll
    go_enter Try.func55, Try.ntmps55
    go_wp2_with (first
      | (go_at_call 65; (with_reducible refine HR.out.mono ?_); rintro e w' ⟨rfl, rfl⟩)
      | (go_at_call 66; (with_reducible refine (busy_no _ _ _ X.out HB.out).mono ?_); rintro e w' ⟨rfl, rfl⟩))
    rw [← HW.out]
    refine HC.out.mono ?_
    rintro e w1 ⟨rfl, j1, j2, j3, x1, t1⟩
    have X1 := Lib.hid x1
    have T1 := Lib.hid t1
    clear x1 t1
    go_wp2
    go_ret
    exact ⟨rfl, j1, j2, j3, X1.out, TQ.out.trans T1.out⟩
end Go.Proofs.Ytfckgfimmoinmaa
