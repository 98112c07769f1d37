/- Contracts of package driver: Erase, Lock, Program. -/
import Derived.Test.YtfckgfimmoinmaaDrvP4
namespace Go.Proofs.Ytfckgfimmoinmaa
open Go.RowKit Bm

section
variable {k : Nat} {m : FlashM}
theorem puts_put (h : FlashOk k m) (c : Calm m) (t a : Int) (v : BitVec 32) (t0 : 0 ≤ t) (t1 : t ≤ 900000000000000) : Puts k ⟨m, t⟩ a 64#32 v (dPut ⟨m, t⟩ a v) (HWait k t (dPut ⟨m, t⟩ a v)) := by
  by_cases hr : fRefuse m a = 0
  · have e1 := (calm_first c a hr).1
    have e2 : fWrite (waitsM m 64) a v = (putM m a v, 0) := prog_second c a v hr
    have l := put_left h c a v
    refine ⟨h, fun e => ?_, fun _ e => ?_, fun _ _ => ?_⟩
    · exact absurd (by dsimp only; rw [e1]) e
    · exact absurd (by dsimp only; rw [e1]; dsimp only; rw [e2]) e
    · dsimp only
      rw [e1]
      dsimp only
      rw [e2]
      exact ⟨put_ok h c a v hr, t0, by dsimp only; omega, (put_waits h c t a v hr).symm⟩
  · have e1 := calm_far a 64#32 hr
    have e3 : dPut ⟨m, t⟩ a v = (⟨m, t⟩, fRefuse m a) := by unfold dPut; exact if_neg hr
    refine ⟨h, fun e => ?_, fun e => ?_, fun e => ?_⟩
    · dsimp only; rw [e1, e3]
    · exact absurd (by dsimp only at e; rw [e1] at e; exact e) hr
    · exact absurd (by dsimp only at e; rw [e1] at e; exact e) hr
theorem puts_erase (h : FlashOk k m) (c : Calm m) (t b : Int) (t0 : 0 ≤ t) (t1 : t ≤ 900000000000000) : Puts k ⟨m, t⟩ (b * 64) 32#32 208#32 (dErase ⟨m, t⟩ b) (HWait k t (dErase ⟨m, t⟩ b)) := by
  by_cases hr : fRefuse m (b * 64) = 0
  · have e1 := (calm_first c (b * 64) hr).2.1
    have e2 : fWrite (waitsM m 32) (b * 64) 208#32 = (erM0 m b, 0) := by
      have := erase_second c (b * 64) hr
      rw [block_of] at this
      exact this
    have l := erase_left h c b
    refine ⟨h, fun e => ?_, fun _ e => ?_, fun _ _ => ?_⟩
    · exact absurd (by dsimp only; rw [e1]) e
    · exact absurd (by dsimp only; rw [e1]; dsimp only; rw [e2]) e
    · dsimp only
      rw [e1]
      dsimp only
      rw [e2]
      exact ⟨erase_ok h c b hr, t0, by dsimp only; omega, (erase_waits h c t b hr).symm⟩
  · have e1 := calm_far (b * 64) 32#32 hr
    have e3 : dErase ⟨m, t⟩ b = (⟨m, t⟩, fRefuse m (b * 64)) := by unfold dErase; exact if_neg hr
    refine ⟨h, fun e => ?_, fun e => ?_, fun e => ?_⟩
    · dsimp only; rw [e1, e3]
    · exact absurd (by dsimp only at e; rw [e1] at e; exact e) hr
    · exact absurd (by dsimp only at e; rw [e1] at e; exact e) hr
theorem puts_lock (h : FlashOk k m) (c : Calm m) (t b : Int) (on : Bool) (x : BitVec 32) (hx : x = if on then 1#32 else 208#32) : Puts k ⟨m, t⟩ (b * 64) 96#32 x (dLock ⟨m, t⟩ b on) (HCheck k t (dLock ⟨m, t⟩ b on)) := by
  subst hx
  by_cases hr : fRefuse m (b * 64) = 0
  · have e1 := (calm_first c (b * 64) hr).2.2.1
    have e2 := lock_second c (b * 64) on hr
    rw [block_of] at e2
    obtain ⟨hu, _, _⟩ := fRefuse_zero hr
    refine ⟨h, fun e => ?_, fun _ e => ?_, fun _ _ => ?_⟩
    · exact absurd (by dsimp only; rw [e1]) e
    · exact absurd (by dsimp only; rw [e1]; dsimp only; rw [e2]) e
    · dsimp only
      rw [e1]
      dsimp only
      rw [e2]
      refine ⟨⟨locksM_ok h c _ (by simpa using h.locks), c.wait, hu, fun _ => .inl c.errors, fun e => absurd c.job e⟩, c.job, ?_⟩
      rw [chk_none (show ({ m with mode := 1, locks := m.locks.set b.toNat on } : FlashM).errors = 0#32 from c.errors)]
      unfold dLock
      exact if_pos hr
  · have e1 := calm_far (b * 64) 96#32 hr
    have e3 : dLock ⟨m, t⟩ b on = (⟨m, t⟩, fRefuse m (b * 64)) := by unfold dLock; exact if_neg hr
    refine ⟨h, fun e => ?_, fun e => ?_, fun e => ?_⟩
    · dsimp only; rw [e1, e3]
    · exact absurd (by dsimp only at e; rw [e1] at e; exact e) hr
    · exact absurd (by dsimp only at e; rw [e1] at e; exact e) hr
end

section
variable {B p f q k : Nat} {K : Nat → Prop} {d : DrvM} {w w' : World}
set_option maxRecDepth 100000 in
set_option maxHeartbeats 1000000 in
theorem Dv.erase (s : Dv B p f q k K d w) (ok : DrvOk k d) (b : Int) (a0 : -1125899906842624 ≤ b) (a1 : b ≤ 1125899906842624) (t0 : 0 ≤ d.t) (t1 : d.t ≤ 100000000000000) :
    Calls Try.prog 15 #[.pointer (some ⟨q, 0, none⟩), .int .i64 b] w (DvOut B p f q k K (dErase d b).1 (.int .i64 (dErase d b).2) w) := by
  have P := puts_erase ok.ok ok.calm d.t b t0 (by omega)
  have F := Lib.hid (s.four P (x1 := 32) (x2 := 208) rfl rfl)
  have M := Lib.hid s.made
  have wr : IntKind.i64.wrap (b * 64) = b * 64 := by rw [IntKind.wrap_i64]; omega
  clear P s ok t0 t1
  unfold cs4 at F
  go_enter Try.func15, Try.ntmps15
  go_wp2_with (first
    | (go_at_call 39; (with_reducible refine M.out.mono ?_); rintro e w1 ⟨rfl, rfl⟩)
    | (go_at_call 41; (with_reducible refine (dwrite_any _ _ _ _ ⟨_, rfl⟩).mono ?_); rintro e w1 ⟨rfl, rfl⟩)
    | (go_at_call 40; go_loud (refine F.out.mono ?_; rintro e w2 ⟨rfl, s2, t2⟩)))
  go_ret
  exact ⟨rfl, s2, t2⟩

set_option maxRecDepth 100000 in
set_option maxHeartbeats 1000000 in
theorem Dv.lock (s : Dv B p f q k K d w) (ok : DrvOk k d) (b : Int) (on : Bool) (a0 : -1125899906842624 ≤ b) (a1 : b ≤ 1125899906842624) :
    Calls Try.prog 20 #[.pointer (some ⟨q, 0, none⟩), .int .i64 b, .bool on] w (DvOut B p f q k K (dLock d b on).1 (.int .i64 (dLock d b on).2) w) := by
  have P := puts_lock ok.ok ok.calm d.t b on _ rfl
  have M := Lib.hid s.made
  have wr : IntKind.i64.wrap (b * 64) = b * 64 := by rw [IntKind.wrap_i64]; omega
  cases on
  · have F := Lib.hid (s.three P (x1 := 96) (x2 := 208) rfl rfl)
    clear P s ok
    unfold cs3 at F
    go_enter Try.func20, Try.ntmps20
    go_wp2_with (first
      | (go_at_call 39; (with_reducible refine M.out.mono ?_); rintro e w1 ⟨rfl, rfl⟩)
      | (go_at_call 41; (with_reducible refine (dwrite_any _ _ _ _ ⟨_, rfl⟩).mono ?_); rintro e w1 ⟨rfl, rfl⟩)
      | (go_at_call 40; go_loud (refine F.out.mono ?_; rintro e w2 ⟨rfl, s2, t2⟩)))
    go_ret
    exact ⟨rfl, s2, t2⟩
  · have F := Lib.hid (s.three P (x1 := 96) (x2 := 1) rfl rfl)
    clear P s ok
    unfold cs3 at F
    go_enter Try.func20, Try.ntmps20
    go_wp2_with (first
      | (go_at_call 39; (with_reducible refine M.out.mono ?_); rintro e w1 ⟨rfl, rfl⟩)
      | (go_at_call 41; (with_reducible refine (dwrite_any _ _ _ _ ⟨_, rfl⟩).mono ?_); rintro e w1 ⟨rfl, rfl⟩)
      | (go_at_call 40; go_loud (refine F.out.mono ?_; rintro e w2 ⟨rfl, s2, t2⟩)))
    go_ret
    exact ⟨rfl, s2, t2⟩

set_option maxRecDepth 100000 in
set_option maxHeartbeats 4000000 in
theorem Dv.program (s : Dv B p f q k K d w) (ok : DrvOk k d) (a : Int) (A : Option Addr) (n c : Nat) (xs : List (BitVec 32)) (hr : ReadsU w A n c xs) (hn : n ≤ 1000) (a0 : -1125899906842624 ≤ a) (a1 : a ≤ 1125899906842624) (t0 : 0 ≤ d.t) (t1 : d.t ≤ 100000000000000) (hA : 0 < n → ∀ g, A = some g → ¬ May B K g.block) :
    Calls Try.prog 28 #[.pointer (some ⟨q, 0, none⟩), .int .i64 a, .slice A n c] w (DvOut B p f q k K (dProgram d a xs).1 (.int .i64 (dProgram d a xs).2) w) := by
  have S0 := Lib.hid s
  have OK0 := Lib.hid ok
  have HR := Lib.hid hr
  have HA := Lib.hid hA
  have LX := Lib.hid hr.len
  have hle := hr.le
  have hmx := hr.max
  unfold maxLen at hmx
  clear s ok hr hA
  go_enter Try.func28, Try.ntmps28
  go_wp2_with (go_at_call 39; (with_reducible refine S0.out.made.mono ?_); rintro e w1 ⟨rfl, rfl⟩)
  go_loopw [16] (fun i wr => ∃ (j : Nat) (m : FlashM) (t : Int), j ≤ n ∧ i = .int .i64 j ∧ Dv B p f q k K ⟨m, t⟩ wr ∧ Turned (May B K) w1 wr ∧ DrvOk k ⟨m, t⟩ ∧ dProgram d a xs = dProgram ⟨m, t⟩ (a + j) (xs.drop j) ∧ 0 ≤ t ∧ t ≤ 100000000000000 + 3 * (j : Int)) (fun i _ => n - (intOf i).toNat)
  case atStart => exact ⟨0, d.f, d.t, by omega, rfl, S0.out, Turned.refl _ _, OK0.out, by simp, t0, by simpa using t1⟩
  case round =>
    clear S0 OK0 t0 t1
    obtain ⟨j, m, t, hj, rfl, s, tw, ok, hd, t0, t1⟩ := hrel
    have S := Lib.hid s
    have TW := Lib.hid tw
    have HD := Lib.hid hd
    have OK := Lib.hid ok
    clear s tw hd ok
    by_cases hlt : j < n
    · have hrw := HR.out.act TW.out (HA.out (by omega))
      obtain ⟨ad, rfl, hx⟩ := hrw.at_ hlt
      clear hrw
      have i0 : (0 : Int) ≤ (j : Int) := by omega
      have i1 : (j : Int) < (n : Int) := by omega
      have wr1 : IntKind.i64.wrap (a + (j : Int)) = a + j := by rw [IntKind.wrap_i64]; omega
      have ed : xs.drop j = wd xs j :: xs.drop (j + 1) := by
        have hl : j < xs.length := by rw [LX.out]; exact hlt
        rw [List.drop_eq_getElem_cons hl]
        unfold wd
        rw [List.getD_eq_getElem?_getD, List.getElem?_eq_getElem hl]
        rfl
      have P := puts_put OK.out.ok OK.out.calm t (a + j) (wd xs j) t0 (by omega)
      have F := Lib.hid (S.out.four P (x1 := 64) (x2 := U (wd xs j)) rfl rfl)
      unfold cs4 at F
      have HD2 := HD.out
      rw [ed, dProgram] at HD2
      have TP := put_ticks ⟨m, t⟩ (a + j) (wd xs j)
      have OKP := Lib.hid (put_calm OK.out (a + j) (wd xs j))
      obtain ⟨x, hx⟩ : ∃ x, x = dPut ⟨m, t⟩ (a + j) (wd xs j) := ⟨_, rfl⟩
      rw [← hx] at HD2 F TP OKP
      have M := Lib.hid S.out.made
      have HD3 := Lib.hid HD2
      have TP3 := Lib.hid TP
      clear P ed HD2 TP hx
      by_cases hx0 : x.2 = 0
      · have hx1 : (x.2 != 0) = false := by rw [hx0]; rfl
        have HD4 := HD3.out
        rw [if_pos hx0] at HD4
        have HD5 := Lib.hid HD4
        clear HD4
        go_wp2_with (first
          | (go_at_call 41; (with_reducible refine (dwrite_any _ _ _ _ ⟨_, rfl⟩).mono ?_); rintro e w1 ⟨rfl, rfl⟩)
          | (go_at_call 40; go_loud (refine F.out.mono ?_; rintro e w2 ⟨rfl, s2, t2⟩; have S2 := Lib.hid s2; have T2 := Lib.hid t2; clear s2 t2)))
        have TT := Lib.hid (TW.out.trans T2.out)
        have t3 := TP3.out.1
        have t4 := TP3.out.2
        have T3 : 0 ≤ x.1.t ∧ x.1.t ≤ 100000000000000 + 3 * ((j : Int) + 1) := ⟨by omega, by omega⟩
        clear t3 t4
        go_roundw
        case rel => exact ⟨j + 1, x.1.f, x.1.t, by omega, by go_num, S2.out, TT.out, OKP.out, by rw [HD5.out, show a + (j : Int) + 1 = a + ((j + 1 : Nat) : Int) by omega], T3.1, by have := T3.2; omega⟩
        case measure => simp [intOf]; omega
      · have hx1 : (x.2 != 0) = true := by simpa using hx0
        have HD4 := HD3.out
        rw [if_neg hx0] at HD4
        have HD5 := Lib.hid HD4
        clear HD4
        go_wp2_with (first
          | (go_at_call 41; (with_reducible refine (dwrite_any _ _ _ _ ⟨_, rfl⟩).mono ?_); rintro e w1 ⟨rfl, rfl⟩)
          | (go_at_call 40; go_loud (refine F.out.mono ?_; rintro e w2 ⟨rfl, s2, t2⟩; have S2 := Lib.hid s2; have T2 := Lib.hid t2; clear s2 t2)))
        go_ret
        rw [HD5.out]
        exact ⟨rfl, S2.out, TW.out.trans T2.out⟩
    · obtain rfl : j = n := by omega
      have ez : xs.drop j = [] := List.drop_eq_nil_of_le (by rw [LX.out]; omega)
      have HZ := HD.out
      rw [ez, dProgram] at HZ
      have HZ2 := Lib.hid HZ
      clear HZ ez
      go_wp2
      go_ret
      rw [HZ2.out]
      exact ⟨rfl, S.out, TW.out⟩
end
end Go.Proofs.Ytfckgfimmoinmaa
