/- Contracts of package driver's helpers: wait, check, inOrder. -/
import Derived.Test.YtfckgfimmoinmaaDrvP1
namespace Go.Proofs.Ytfckgfimmoinmaa
open Go.RowKit Bm
attribute [local go_sem] U_and50 U_and2 U_and48 U_and128

theorem alienDv : Alien 73 := ⟨by decide, by decide, by decide, by decide, by decide⟩
theorem chk_none {m : FlashM} (he : m.errors = 0#32) : dCheck m = (m, 0) := if_pos he
theorem chk_some {m : FlashM} (he : m.errors ≠ 0#32) : dCheck m = ({ m with mode := 1, errors := 0#32 }, dCode m.errors) := if_neg he
theorem WaitOk.clear {k : Nat} {m : FlashM} (ok : WaitOk k m) (hj : m.job = 0) : fWrite m 0 80#32 = ({ m with mode := 1, errors := 0#32 }, 0) :=
  Idle.write ⟨ok.up, ok.wait, hj⟩ 0 (by omega) (by have := ok.len; omega) 80#32 80#32 rfl
theorem WaitOk.ready {k : Nat} {m : FlashM} (ok : WaitOk k m) (hj : m.job = 0) : fStatus m = m.errors ||| 128#32 ∧ Bits m.errors := ⟨if_pos hj, ok.idle hj⟩

section
variable {B p f q k : Nat} {K : Nat → Prop} {d : DrvM} {w w' : World}
/-- The count of ticks was set. -/
theorem Dv.putT (s : Dv B p f q k K d w) (t : Int) : Dv B p f q k K ⟨d.f, t⟩ (w.setCell ⟨q, 2, none⟩ (.int .i64 t)) :=
  ⟨s.st.other s.own alienDv ((Turned.refl (Just q) w).setCell (p := ⟨q, 2, none⟩) (fun _ => rfl) _), (s.own.put 2 _).as rfl, s.qB⟩
theorem turned_q (hq : May B K q) {w1 : World} (t : Turned (May B K) w w1) (v : Value) (j : Nat) : Turned (May B K) w (w1.setCell ⟨q, j, none⟩ v) :=
  t.setCell (p := ⟨q, j, none⟩) (fun _ => hq) v

/-- The end of a wait: the flash is ready, and its status is still to be checked; or an error. -/
def WaitEnd (B p f q k : Nat) (K : Nat → Prop) (r : DrvM × Int) (w : World) (e : Ending) (w' : World) : Prop :=
  ∃ d' n, e = .returned (.int .i64 n) ∧ Dv B p f q k K d' w' ∧ Turned (May B K) w w' ∧ (n = 0 → WaitOk k d'.f ∧ d'.f.job = 0 ∧ r = (⟨(dCheck d'.f).1, d'.t⟩, (dCheck d'.f).2)) ∧ (n ≠ 0 → r = (d', n))

set_option maxRecDepth 100000 in
set_option maxHeartbeats 4000000 in
theorem Dv.wait (s : Dv B p f q k K d w) (ok : WaitOk k d.f) (t0 : 0 ≤ d.t) (t1 : d.t + d.f.left ≤ 1000000000000000) :
    Calls Try.prog 42 #[.pointer (some ⟨q, 0, none⟩)] w (WaitEnd B p f q k K (dWait d) w) := by
  have g0 : 0 ≤ d.f.left := by
    by_cases hj : d.f.job = 0
    · have := (ok.ok.idle hj).2.2; omega
    · have := ok.ok.busy hj; omega
  have S0 := Lib.hid s
  have OK0 := Lib.hid ok
  clear s ok
  go_enter Try.func42, Try.ntmps42
  go_wp2_with fail
  go_loopg [] d.f.left.toNat (fun g wr => ∃ (m : FlashM) (t : Int), (g : Int) = m.left ∧ Dv B p f q k K ⟨m, t⟩ wr ∧ Turned (May B K) w wr ∧ WaitOk k m ∧ dWait d = dWait ⟨m, t⟩ ∧ 0 ≤ t ∧ t + m.left ≤ 1000000000000000)
  case atStart => exact ⟨d.f, d.t, by omega, S0.out, Turned.refl _ _, OK0.out, rfl, t0, t1⟩
  case round =>
    clear S0 OK0 g0 t0 t1
    obtain ⟨m, t, hg, s, tw, ok, hd, t0, t1⟩ := hrel
    have q0 := s.own.cell 0
    have q2 := s.own.cell 2
    have y2 := s.own.frozen 2
    simp only [drvCells, List.getElem?_cons_zero, List.getElem?_cons_succ] at q0 q2
    have ST := Lib.hid (s.st.st.status ok.ok)
    have S := Lib.hid s
    have TW := Lib.hid tw
    have OK := Lib.hid ok
    have HD := Lib.hid hd
    clear s tw ok hd
    by_cases hj : m.job = 0
    · obtain ⟨hs, hb⟩ := OK.out.ready hj
      have hu : (U (fStatus m &&& 128#32) == 0) = false := by
        rw [hs]
        rcases hb with e | e | e | e <;> rw [e] <;> decide
      have E := Lib.hid (HD.out.trans (wait_still hj t))
      have HJ := Lib.hid hj
      clear hs hb hj hg
      go_wp2_with (go_at_call 56; (with_reducible refine ST.out.mono ?_); rintro e w2 ⟨rfl, rfl⟩)
      go_ret
      exact ⟨⟨m, t⟩, 0, rfl, S.out, TW.out, fun _ => ⟨OK.out, HJ.out, E.out⟩, fun h => absurd rfl h⟩
    · have hu : (U (fStatus m &&& 128#32) == 0) = true := by
        rw [show fStatus m = 0#32 by unfold fStatus; rw [if_neg hj]; exact OK.out.busy hj]
        decide
      have hl := (OK.out.ok.busy hj).2.2.1
      have S2 := Lib.hid (S.out.putT (t + 1))
      have T2 := Lib.hid (turned_q S.out.qB TW.out (.int .i64 (t + 1)) 2)
      have o2 : (w.heap.size : Nat) = w.heap.size := rfl
      obtain ⟨V, hV⟩ : ∃ V, V = wr.setCell ⟨q, 2, none⟩ (.int .i64 (t + 1)) := ⟨_, rfl⟩
      rw [← hV] at S2 T2
      have v0 := S2.out.own.cell 0
      simp only [drvCells, List.getElem?_cons_zero] at v0
      have zz := OK.out.tick hj t
      have tk := S2.out.st.tick OK.out.ok 1 (by omega) (by omega)
      obtain ⟨x, hx⟩ : ∃ x, x = fTick m 1 := ⟨_, rfl⟩
      rw [← hx] at zz tk
      have TK := Lib.hid tk
      have Z := Lib.hid zz
      have HV := Lib.hid hV
      clear hj tk zz hx o2 hV
      by_cases hx0 : x.2 = 0
      · have hx1 : (x.2 != 0) = false := by rw [hx0]; rfl
        go_wp2_with (first
          | (go_at_call 56; (with_reducible refine ST.out.mono ?_); rintro e w2 ⟨rfl, rfl⟩)
          | (go_at_call 57; rw [← HV.out]; (with_reducible refine TK.out.mono ?_); rintro e w3 ⟨rfl, s3, t3⟩; have S3 := Lib.hid (s3 : StK _ _ _ _ _ _); have T3 := Lib.hid t3; clear s3 t3))
        obtain ⟨z1, z2, z3⟩ := Z.out.1 hx0
        have o3 := S2.out.own.kept T3.out (fun e => e.2 (.inr rfl))
        have Z3 : Hid (x.1.left = m.left - 1) := Lib.hid z3
        have DV : Hid (Dv B p f q k K ⟨x.1, t + 1⟩ w3) := Lib.hid ⟨S3.out, o3, S2.out.qB⟩
        have TT := Lib.hid (T2.out.trans (may_less T3.out (fun i h => .inl h)))
        have ZW := Lib.hid z1
        have ZD := Lib.hid (HD.out.trans z2)
        clear z1 z2 z3 o3
        go_roundg (gk - 1)
        case measure => go_light; omega
        case rel => go_light; exact ⟨x.1, t + 1, by rw [Z3.out]; omega, DV.out, TT.out, ZW.out, ZD.out, by omega, by rw [Z3.out]; omega⟩
      · have hx1 : (x.2 != 0) = true := by simpa using hx0
        go_wp2_with (first
          | (go_at_call 56; (with_reducible refine ST.out.mono ?_); rintro e w2 ⟨rfl, rfl⟩)
          | (go_at_call 57; rw [← HV.out]; (with_reducible refine TK.out.mono ?_); rintro e w3 ⟨rfl, s3, t3⟩; have S3 := Lib.hid (s3 : StK _ _ _ _ _ _); have T3 := Lib.hid t3; clear s3 t3))
        go_ret
        have o3 := S2.out.own.kept T3.out (fun e => e.2 (.inr rfl))
        exact ⟨⟨x.1, t + 1⟩, x.2, rfl, ⟨S3.out, o3, S2.out.qB⟩, T2.out.trans (may_less T3.out (fun i h => .inl h)), fun h => absurd h hx0, fun _ => HD.out.trans (Z.out.2 hx0)⟩

set_option maxRecDepth 100000 in
set_option maxHeartbeats 4000000 in
theorem Dv.check (s : Dv B p f q k K d w) (ok : WaitOk k d.f) (hj : d.f.job = 0) :
    Calls Try.prog 43 #[.pointer (some ⟨q, 0, none⟩)] w (DvOut B p f q k K ⟨(dCheck d.f).1, d.t⟩ (.int .i64 (dCheck d.f).2) w) := by
  obtain ⟨m, t⟩ := d
  have q0 := s.own.cell 0
  simp only [drvCells, List.getElem?_cons_zero] at q0
  have ST := Lib.hid (s.st.st.status ok.ok)
  obtain ⟨hs, hb⟩ := ok.ready hj
  have S := Lib.hid s
  have cw := s.st.write ok.ok 0 80#32
  rw [ok.clear hj, show U 80#32 = 80 from rfl] at cw
  have CW := Lib.hid cw
  clear cw s ok hj
  obtain ⟨x, hx⟩ : ∃ x, x = fStatus m := ⟨_, rfl⟩
  rw [← hx] at ST hs
  clear hx
  by_cases he : m.errors = 0#32
  · rw [chk_none he]
    rw [he] at hs
    have u1 : (U (x &&& 50#32) == 0) = true := by rw [hs]; decide
    clear hb he hs
    go_enter Try.func43, Try.ntmps43
    go_wp2_with (go_at_call 56; (with_reducible refine ST.out.mono ?_); rintro e w2 ⟨rfl, rfl⟩)
    go_ret
    exact ⟨rfl, S.out, Turned.refl _ _⟩
  · rw [chk_some he]
    obtain ⟨m2, hm2⟩ : ∃ m2, m2 = ({ m with mode := 1, errors := 0#32 } : FlashM) := ⟨_, rfl⟩
    dsimp only at CW ⊢
    rw [← hm2] at CW ⊢
    have fin : ∀ n w1, StK B p f (fun i => K i ∨ i = q) m2 w1 → Turned (May B (fun i => K i ∨ i = q)) w w1 → DvOut B p f q k K ⟨m2, t⟩ (.int .i64 n) w (.returned (.int .i64 n)) w1 := fun n w1 s1 t1 =>
      ⟨rfl, ⟨s1, S.out.own.kept t1 (fun e => e.2 (.inr rfl)), S.out.qB⟩, may_less t1 (fun i h => .inl h)⟩
    have FIN := Lib.hid fin
    clear hm2 fin
    rcases hb with e | e | e | e
    · exact absurd e he
    all_goals
      rw [e] at hs ⊢
      clear he e
      have u1 : (U (x &&& 50#32) == 0) = false := by rw [hs]; decide
    · have u2 : (U (x &&& 2#32) != 0) = true := by rw [hs]; decide
      clear hs
      go_enter Try.func43, Try.ntmps43
      go_wp2_with (first
        | (go_at_call 56; (with_reducible refine ST.out.mono ?_); rintro e w2 ⟨rfl, rfl⟩)
        | (go_at_call 55; (with_reducible refine CW.out.mono ?_); rintro e w3 ⟨rfl, s3, t3⟩))
      go_ret
      exact FIN.out 6 _ s3 t3
    · have u2 : (U (x &&& 2#32) != 0) = true := by rw [hs]; decide
      clear hs
      go_enter Try.func43, Try.ntmps43
      go_wp2_with (first
        | (go_at_call 56; (with_reducible refine ST.out.mono ?_); rintro e w2 ⟨rfl, rfl⟩)
        | (go_at_call 55; (with_reducible refine CW.out.mono ?_); rintro e w3 ⟨rfl, s3, t3⟩))
      go_ret
      exact FIN.out 6 _ s3 t3
    · have u2 : (U (x &&& 2#32) != 0) = false := by rw [hs]; decide
      have u3 : (U (x &&& 48#32) == 48) = false := by rw [hs]; decide
      clear hs
      go_enter Try.func43, Try.ntmps43
      go_wp2_with (first
        | (go_at_call 56; (with_reducible refine ST.out.mono ?_); rintro e w2 ⟨rfl, rfl⟩)
        | (go_at_call 55; (with_reducible refine CW.out.mono ?_); rintro e w3 ⟨rfl, s3, t3⟩))
      go_ret
      exact FIN.out 5 _ s3 t3
end
end Go.Proofs.Ytfckgfimmoinmaa
