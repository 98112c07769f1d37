/- The contracts of package cfi's calls: Read, Tick, Reset, New. -/
import Derived.Test.YtfckgfimmoinmaaCfi7
namespace Go.Proofs.Ytfckgfimmoinmaa
open Go.RowKit Bm

/-- A word and a code; only draws were made. -/
def Said2 (r : BitVec 32 × Int) (w : World) (e : Ending) (w' : World) : Prop := e = .returned (.tuple #[.int .u32 (U r.1), .int .i64 r.2]) ∧ ∃ n, w' = w.drewN n
theorem said2_of {x : BitVec 32} {n : Int} {r : BitVec 32 × Int} (w : World) (k : Nat) (h : r = (x, n)) : Said2 r w (.returned (.tuple #[.int .u32 (U x), .int .i64 n])) (w.drewN k) := by
  subst h
  exact ⟨rfl, k, rfl⟩
theorem fRead_no {m : FlashM} {a : Int} (h : fRefuse m a ≠ 0) : fRead m a = (0#32, fRefuse m a) := if_neg h
theorem fRead_yes {m : FlashM} {i : Nat} (h : fRefuse m i = 0) : fRead m i = (fReadDo m i, 0) := if_pos h
theorem mRead_yes {m : FlashM} {i : Nat} (h : fRefuse m i = 0) : mRead m.chip i = (wd m.chip.ws i, 0) := if_pos h

set_option maxRecDepth 100000 in
set_option maxHeartbeats 2000000 in
theorem fread_any (h : Fh) (m : FlashM) (k : Nat) (a : Int) (w : World) (x : FlashAt w h m) (ok : FlashOk k m) :
    Calls Try.prog 62 #[.pointer (some ⟨h.f, 0, none⟩), .int .i64 a] w (Said2 (fRead m a) w) := by
  have hr := frefuse_any h m k a w x ok
  by_cases r0 : fRefuse m a = 0
  case neg =>
    have q : (fRefuse m a != 0) = true := by rw [bne_iff_ne]; exact r0
    have E := Lib.hid (fRead_no r0)
    have HR := Lib.hid hr
    clear x hr ok r0
    go_enter Try.func62, Try.ntmps62
    go_wp2_with (go_at_call 65; (with_reducible refine HR.out.mono ?_); rintro e w' ⟨rfl, rfl⟩)
    go_ret2
    exact said2_of _ 0 E.out
  obtain ⟨_, a0, a1⟩ := fRefuse_zero r0
  obtain ⟨i, rfl⟩ := Int.eq_ofNat_of_zero_le a0
  have hi : i < 4096 := by have := ok.len; omega
  have E := Lib.hid (fRead_yes r0)
  have hm := mRead_yes r0
  have hc := read_any h.c m.chip k i w x.chip ok.chip
  rw [hm] at hc
  dsimp only at hc
  rw [r0] at hr
  have HR := Lib.hid hr
  have HC := Lib.hid hc
  have X := Lib.hid x
  have g0 := x.own.cell 0
  have g1 := x.own.cell 1
  simp only [flCells, List.getElem?_cons_zero, List.getElem?_cons_succ] at g0 g1
  have hid := id_any h m i w x hi
  have hqu := query_any h m k i w x ok
  have hst := status_any h m k w x ok
  have HI := Lib.hid hid
  have HQ := Lib.hid hqu
  have HS := Lib.hid hst
  clear hr hc hm r0 a0 a1 hid hqu hst x hi
  rcases ok.mode with e | e | e | e
  · have D : Hid (fReadDo m i = wd m.chip.ws i) := Lib.hid (by unfold fReadDo; rw [if_pos e])
    rw [e] at g1
    clear e ok
    go_enter Try.func62, Try.ntmps62
    go_wp2_with (first
      | (go_at_call 65; (with_reducible refine HR.out.mono ?_); rintro e w' ⟨rfl, rfl⟩)
      | (go_at_call 73; (with_reducible refine HC.out.mono ?_); rintro e w' ⟨rfl, rfl⟩))
    go_ret2
    exact said2_of _ 0 (by rw [E.out, D.out])
  · have D : Hid (fReadDo m i = fStatus m) := Lib.hid (by unfold fReadDo; rw [if_neg (by rw [e]; decide), if_neg (by rw [e]; decide), if_neg (by rw [e]; decide)])
    rw [e] at g1
    clear e ok
    go_enter Try.func62, Try.ntmps62
    go_wp2_with (first
      | (go_at_call 65; (with_reducible refine HR.out.mono ?_); rintro e w' ⟨rfl, rfl⟩)
      | (go_at_call 56; (with_reducible refine HS.out.mono ?_); rintro e w' ⟨rfl, rfl⟩))
    go_ret2
    exact said2_of _ 0 (by rw [E.out, D.out])
  · have D : Hid (fReadDo m i = fId m i) := Lib.hid (by unfold fReadDo; rw [if_neg (by rw [e]; decide), if_pos e])
    rw [e] at g1
    clear e ok
    go_enter Try.func62, Try.ntmps62
    go_wp2_with (first
      | (go_at_call 65; (with_reducible refine HR.out.mono ?_); rintro e w' ⟨rfl, rfl⟩)
      | (go_at_call 74; (with_reducible refine HI.out.mono ?_); rintro e w' ⟨rfl, nq, rfl⟩))
    go_ret2
    exact said2_of _ nq (by rw [E.out, D.out])
  · have D : Hid (fReadDo m i = fQuery m i) := Lib.hid (by unfold fReadDo; rw [if_neg (by rw [e]; decide), if_neg (by rw [e]; decide), if_pos e])
    rw [e] at g1
    clear e ok
    go_enter Try.func62, Try.ntmps62
    go_wp2_with (first
      | (go_at_call 65; (with_reducible refine HR.out.mono ?_); rintro e w' ⟨rfl, rfl⟩)
      | (go_at_call 75; (with_reducible refine HQ.out.mono ?_); rintro e w' ⟨rfl, rfl⟩))
    go_ret2
    exact said2_of _ 0 (by rw [E.out, D.out])

theorem did_same {h : Fh} {m : FlashM} {n : Int} {w w' : World} (x : FlashAt w' h m) (t : Turned h.own w w') {r : FlashM × Int} (hr : r = (m, n)) : Did h r w (.returned (.int .i64 n)) w' := by
  subst hr
  exact ⟨rfl, x, t⟩

set_option maxRecDepth 100000 in
set_option maxHeartbeats 2000000 in
theorem ftick_any (h : Fh) (m : FlashM) (k : Nat) (n : Int) (w : World) (x : FlashAt w h m) (ok : FlashOk k m) (b0 : -9223372036854775808 ≤ n) (b1 : n ≤ 9223372036854775807) :
    Calls Try.prog 57 #[.pointer (some ⟨h.f, 0, none⟩), .int .i64 n] w (Did h (fTick m n) w) := by
  have hr := frefuse_any h m k 0 w x ok
  have X := Lib.hid x
  by_cases r0 : fRefuse m 0 = 0
  case neg =>
    have q : (fRefuse m 0 != 0) = true := by rw [bne_iff_ne]; exact r0
    have E : Hid (fTick m n = (m, fRefuse m 0)) := Lib.hid (by unfold fTick; rw [if_pos r0])
    have HR := Lib.hid hr
    clear x hr ok r0
    go_enter Try.func57, Try.ntmps57
    go_wp2_with (go_at_call 65; (with_reducible refine HR.out.mono ?_); rintro e w' ⟨rfl, rfl⟩)
    go_ret
    exact did_same X.out (Turned.refl _ _) E.out
  rw [r0] at hr
  have HR := Lib.hid hr
  have e0 : ¬ fRefuse m 0 ≠ 0 := fun e => e r0
  by_cases h1 : n < 0
  · have E : Hid (fTick m n = (m, 2)) := Lib.hid (by unfold fTick; rw [if_neg e0, if_pos h1])
    clear x hr ok r0 e0
    go_enter Try.func57, Try.ntmps57
    go_wp2_with (go_at_call 65; (with_reducible refine HR.out.mono ?_); rintro e w' ⟨rfl, rfl⟩)
    go_ret
    exact did_same X.out (Turned.refl _ _) E.out
  by_cases j : m.job = 0
  · have E : Hid (fTick m n = (m, 0)) := Lib.hid (by unfold fTick; rw [if_neg e0, if_neg h1, if_pos j])
    have hb := (ok.idle j).2.2
    have HB := Lib.hid hb
    clear x hr ok r0 e0 j hb
    go_enter Try.func57, Try.ntmps57
    go_wp2_with (first
      | (go_at_call 65; (with_reducible refine HR.out.mono ?_); rintro e w' ⟨rfl, rfl⟩)
      | (go_at_call 66; (with_reducible refine (busy_no _ _ _ X.out HB.out).mono ?_); rintro e w' ⟨rfl, rfl⟩))
    go_ret
    exact did_same X.out (Turned.refl _ _) E.out
  have hb := (ok.busy j).2.2.1
  have hb2 := (ok.busy j).2.2.2
  have HB := Lib.hid hb
  have g5 := x.own.cell 5
  simp only [flCells, List.getElem?_cons_zero, List.getElem?_cons_succ] at g5
  have f5 := x.own.frozen 5
  by_cases hn : n < m.left
  · have E : Hid (fTick m n = ({ m with left := m.left - n }, 0)) := Lib.hid (by unfold fTick; rw [if_neg e0, if_neg h1, if_neg j, if_pos hn])
    clear x hr ok r0 e0 j
    go_enter Try.func57, Try.ntmps57
    go_wp2_with (first
      | (go_at_call 65; (with_reducible refine HR.out.mono ?_); rintro e w' ⟨rfl, rfl⟩)
      | (go_at_call 66; (with_reducible refine (busy_yes _ _ _ X.out HB.out).mono ?_); rintro e w' ⟨rfl, rfl⟩))
    go_ret
    exact did_same (X.out.putLeft _) (turned_f (Turned.refl _ _) _ _) E.out
  · have E : Hid (fTick m n = fDone m) := Lib.hid (by unfold fTick; rw [if_neg e0, if_neg h1, if_neg j, if_neg hn])
    have hx := execute_any h m k w x ok j
    have HX := Lib.hid hx
    clear x hr ok r0 e0 j hx
    go_enter Try.func57, Try.ntmps57
    go_wp2_with (first
      | (go_at_call 65; (with_reducible refine HR.out.mono ?_); rintro e w' ⟨rfl, rfl⟩)
      | (go_at_call 66; (with_reducible refine (busy_yes _ _ _ X.out HB.out).mono ?_); rintro e w' ⟨rfl, rfl⟩)
      | (go_at_call 68; (with_reducible refine HX.out.mono ?_); rintro e w1 ⟨rfl, x1, t1⟩))
    go_ret
    rw [E.out]
    exact ⟨rfl, x1, t1⟩
end Go.Proofs.Ytfckgfimmoinmaa
