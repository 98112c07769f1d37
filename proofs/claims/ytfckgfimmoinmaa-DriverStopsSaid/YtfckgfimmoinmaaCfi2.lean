/- Contracts of package cfi: what belongs to a pending command, and commands. -/
import Derived.Test.YtfckgfimmoinmaaCfi
namespace Go.Proofs.Ytfckgfimmoinmaa
open Go.RowKit Bm

section
variable {w : World} {h : Fh} {m : FlashM}
theorem JobAt.far (x : JobAt w h m) {cs : List Value} {p : Addr} (hf : At w h.f 97 cs) (hp : p.block = h.f) (u : Value) : JobAt (w.setCell p u) h m :=
  ⟨fun j => by
    obtain ⟨a, b, c, d⟩ := x.prog j
    exact ⟨a.far (by rw [hp]; exact a.ne hf (by decide)) u, b.far (by rw [hp]; exact b.ne hf (by decide)) u, c.far (by rw [hp]; exact c.ne hf (by decide)) u, d⟩,
   fun j => by
    obtain ⟨a, b, d⟩ := x.erase j
    exact ⟨a.far (by rw [hp]; exact a.ne hf (by decide)) u, b.far (by rw [hp]; exact b.ne hf (by decide)) u, d⟩⟩
theorem FlashAt.putF (x : FlashAt w h m) (i : Nat) (u : Value) (m' : FlashM) (e : (flCells h m).set i u = flCells h m') (ec : m'.chip = m.chip) (el : m'.locks = m.locks) (ej : JobAt w h m → JobAt w h m') :
    FlashAt (w.setCell ⟨h.f, i, none⟩ u) h m' := by
  have n1 := x.fp
  have n2 := x.fbw
  have n3 := x.fbe
  have n4 := x.fl
  refine ⟨?_, (x.own.put i u).as e, ?_, (ej x.job).far x.own rfl u⟩
  · rw [ec]
    exact ⟨x.chip.own.far (p := ⟨h.f, i, none⟩) (Ne.symm n1) u, x.chip.words.far (p := ⟨h.f, i, none⟩) (Ne.symm n2) u, x.chip.wear.far (p := ⟨h.f, i, none⟩) (Ne.symm n3) u, x.chip.room, x.chip.cap⟩
  · rw [el]
    exact x.locks.of_block (Below.heap_setCell w ⟨h.f, i, none⟩ u h.l (Ne.symm n4))
theorem FlashAt.putMode (x : FlashAt w h m) (n : Int) : FlashAt (w.setCell ⟨h.f, 1, none⟩ (.int .i64 n)) h { m with mode := n } := x.putF 1 _ _ rfl rfl rfl (fun j => ⟨j.prog, j.erase⟩)
theorem FlashAt.putWait (x : FlashAt w h m) (n : Int) : FlashAt (w.setCell ⟨h.f, 2, none⟩ (pendV n)) h { m with wait := n } := x.putF 2 _ _ rfl rfl rfl (fun j => ⟨j.prog, j.erase⟩)
theorem FlashAt.putErrors (x : FlashAt w h m) (b : BitVec 32) : FlashAt (w.setCell ⟨h.f, 3, none⟩ (.int .u32 (U b))) h { m with errors := b } := x.putF 3 _ _ rfl rfl rfl (fun j => ⟨j.prog, j.erase⟩)
theorem FlashAt.putLeft (x : FlashAt w h m) (n : Int) : FlashAt (w.setCell ⟨h.f, 5, none⟩ (.int .i64 n)) h { m with left := n } := x.putF 5 _ _ rfl rfl rfl (fun j => ⟨j.prog, j.erase⟩)
end

/-- The call ended with nothing to tell; the flash is m' now, and only its own memory has turned. -/
def Ran (h : Fh) (m' : FlashM) (w : World) (e : Ending) (w' : World) : Prop :=
  e = .returned (.tuple #[]) ∧ ∃ j1 j2 j3, FlashAt w' { h with j1 := j1, j2 := j2, j3 := j3 } m' ∧ Turned h.own w w'

theorem turned_f {h : Fh} {a w : World} (t : Turned h.own a w) (i : Nat) (u : Value) : Turned h.own a (w.setCell ⟨h.f, i, none⟩ u) := t.setCell (p := ⟨h.f, i, none⟩) (fun _ => .inr (.inl rfl)) u

theorem U_beq_false {x y : BitVec 32} (h : ¬ x = y) : (U x == U y) = false := by rw [U_beq]; simpa using h

theorem FlashM.mode_one {m : FlashM} (h : m.mode = 1) : ({ m with mode := 1 } : FlashM) = m := by
  cases m
  simp only at h
  subst h
  rfl
theorem ran_one {h : Fh} {m m' : FlashM} {w w' : World} (x : FlashAt w' h m') (t : Turned h.own w w') (e : m' = m) : Ran h m w (.returned (.tuple #[])) w' :=
  ⟨rfl, h.j1, h.j2, h.j3, e ▸ x, t⟩

set_option maxRecDepth 100000 in
set_option maxHeartbeats 1000000 in
theorem command_any (h : Fh) (m : FlashM) (low : BitVec 32) (w : World) (x : FlashAt w h m) (hm : m.mode = 1) :
    Calls Try.prog 67 #[.pointer (some ⟨h.f, 0, none⟩), .int .u32 (U low)] w (Ran h (fCommand m low) w) := by
  have g1 := x.own.cell 1
  have g2 := x.own.cell 2
  have g3 := x.own.cell 3
  simp only [flCells, List.getElem?_cons_zero, List.getElem?_cons_succ] at g1 g2 g3
  have f1 := x.own.frozen 1
  have f2 := x.own.frozen 2
  have f3 := x.own.frozen 3
  have X := Lib.hid x
  have M := Lib.hid hm
  clear x hm
  by_cases h255 : low = 255#32
  · subst h255
    have e : fCommand m 255#32 = { m with mode := 0 } := by
      unfold fCommand
      exact if_pos rfl
    rw [e]
    clear e
    show Calls _ _ #[_, .int .u32 255] _ _
    go_enter Try.func67, Try.ntmps67
    go_wp2
    go_end0
    exact ran_one (X.out.putMode 0) (turned_f (Turned.refl _ _) _ _) (rfl)
  by_cases h112 : low = 112#32
  · subst h112
    have e : fCommand m 112#32 = { m with mode := 1 } := by
      unfold fCommand
      rw [if_neg (by decide)]
      exact if_pos rfl
    rw [e]
    clear e
    show Calls _ _ #[_, .int .u32 112] _ _
    go_enter Try.func67, Try.ntmps67
    go_wp2
    go_end0
    exact ran_one (X.out.putMode 1) (turned_f (Turned.refl _ _) _ _) (rfl)
  by_cases h144 : low = 144#32
  · subst h144
    have e : fCommand m 144#32 = { m with mode := 2 } := by
      unfold fCommand
      rw [if_neg (by decide)]
      rw [if_neg (by decide)]
      exact if_pos rfl
    rw [e]
    clear e
    show Calls _ _ #[_, .int .u32 144] _ _
    go_enter Try.func67, Try.ntmps67
    go_wp2
    go_end0
    exact ran_one (X.out.putMode 2) (turned_f (Turned.refl _ _) _ _) (rfl)
  by_cases h152 : low = 152#32
  · subst h152
    have e : fCommand m 152#32 = { m with mode := 3 } := by
      unfold fCommand
      rw [if_neg (by decide)]
      rw [if_neg (by decide)]
      rw [if_neg (by decide)]
      exact if_pos rfl
    rw [e]
    clear e
    show Calls _ _ #[_, .int .u32 152] _ _
    go_enter Try.func67, Try.ntmps67
    go_wp2
    go_end0
    exact ran_one (X.out.putMode 3) (turned_f (Turned.refl _ _) _ _) (rfl)
  by_cases h80 : low = 80#32
  · subst h80
    have e : fCommand m 80#32 = { m with mode := 1, errors := 0#32 } := by
      unfold fCommand
      rw [if_neg (by decide)]
      rw [if_neg (by decide)]
      rw [if_neg (by decide)]
      rw [if_neg (by decide)]
      exact if_pos rfl
    rw [e]
    clear e
    show Calls _ _ #[_, .int .u32 80] _ _
    go_enter Try.func67, Try.ntmps67
    go_wp2
    go_end0
    exact ran_one (X.out.putErrors 0#32) (turned_f (Turned.refl _ _) _ _) (by have := M.out; cases m; simp only at this; subst this; rfl)
  by_cases h64 : low = 64#32
  · subst h64
    have e : fCommand m 64#32 = { m with mode := 1, wait := 64 } := by
      unfold fCommand
      rw [if_neg (by decide)]
      rw [if_neg (by decide)]
      rw [if_neg (by decide)]
      rw [if_neg (by decide)]
      rw [if_neg (by decide)]
      exact if_pos rfl
    rw [e]
    clear e
    show Calls _ _ #[_, .int .u32 64] _ _
    go_enter Try.func67, Try.ntmps67
    go_wp2
    go_end0
    exact ran_one (X.out.putWait 64) (turned_f (Turned.refl _ _) _ _) (by have := M.out; cases m; simp only at this; subst this; rfl)
  by_cases h32 : low = 32#32
  · subst h32
    have e : fCommand m 32#32 = { m with mode := 1, wait := 32 } := by
      unfold fCommand
      rw [if_neg (by decide)]
      rw [if_neg (by decide)]
      rw [if_neg (by decide)]
      rw [if_neg (by decide)]
      rw [if_neg (by decide)]
      rw [if_neg (by decide)]
      exact if_pos rfl
    rw [e]
    clear e
    show Calls _ _ #[_, .int .u32 32] _ _
    go_enter Try.func67, Try.ntmps67
    go_wp2
    go_end0
    exact ran_one (X.out.putWait 32) (turned_f (Turned.refl _ _) _ _) (by have := M.out; cases m; simp only at this; subst this; rfl)
  by_cases h96 : low = 96#32
  · subst h96
    have e : fCommand m 96#32 = { m with mode := 1, wait := 96 } := by
      unfold fCommand
      rw [if_neg (by decide)]
      rw [if_neg (by decide)]
      rw [if_neg (by decide)]
      rw [if_neg (by decide)]
      rw [if_neg (by decide)]
      rw [if_neg (by decide)]
      rw [if_neg (by decide)]
      exact if_pos rfl
    rw [e]
    clear e
    show Calls _ _ #[_, .int .u32 96] _ _
    go_enter Try.func67, Try.ntmps67
    go_wp2
    go_end0
    exact ran_one (X.out.putWait 96) (turned_f (Turned.refl _ _) _ _) (by have := M.out; cases m; simp only at this; subst this; rfl)
  have q255 : (U low == 255) = false := U_beq_false (y := 255#32) h255
  have q112 : (U low == 112) = false := U_beq_false (y := 112#32) h112
  have q144 : (U low == 144) = false := U_beq_false (y := 144#32) h144
  have q152 : (U low == 152) = false := U_beq_false (y := 152#32) h152
  have q80 : (U low == 80) = false := U_beq_false (y := 80#32) h80
  have q64 : (U low == 64) = false := U_beq_false (y := 64#32) h64
  have q32 : (U low == 32) = false := U_beq_false (y := 32#32) h32
  have q96 : (U low == 96) = false := U_beq_false (y := 96#32) h96
  have e : fCommand m low = fWith { m with mode := 1 } 48#32 := by
    unfold fCommand
    rw [if_neg h255, if_neg h112, if_neg h144, if_neg h152, if_neg h80, if_neg h64, if_neg h32, if_neg h96]
  rw [e, FlashM.mode_one M.out]
  clear e h255 h112 h144 h152 h80 h64 h32 h96
  go_enter Try.func67, Try.ntmps67
  go_wp2
  go_end0
  exact ran_one (X.out.putErrors _) (turned_f (Turned.refl _ _) _ _) rfl
end Go.Proofs.Ytfckgfimmoinmaa
