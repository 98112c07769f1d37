/- Contracts of package cfi: the values that belong to Program, Erase and Lock. -/
import Derived.Test.YtfckgfimmoinmaaCfi3
namespace Go.Proofs.Ytfckgfimmoinmaa
open Go.RowKit Bm

theorem FlashAt.c_lt {w : World} {h : Fh} {m : FlashM} (x : FlashAt w h m) {i : Nat} (hi : h.c.own i) : i < w.heap.size := by
  rcases hi with rfl | rfl | rfl
  · exact x.chip.own.lt
  · exact x.chip.words.lt
  · exact x.chip.wear.lt

theorem At.alloc_new {w : World} (o : Obj) {n : Nat} (t : TypeId) (cs : List Value) (h : n = w.heap.size) (ho : o = .cells cs.toArray t) : At (w.alloc o) n t cs := by
  subst h ho
  exact At.news w t cs

theorem ran_new {h : Fh} {m' : FlashM} {w w' : World} (j1 j2 j3 : Nat) (x : FlashAt w' { h with j1 := j1, j2 := j2, j3 := j3 } m') (t : Turned h.own w w') : Ran h m' w (.returned (.tuple #[])) w' := ⟨rfl, j1, j2, j3, x, t⟩

set_option maxRecDepth 100000 in
set_option maxHeartbeats 1000000 in
theorem fprogram_any (h : Fh) (m : FlashM) (i : Nat) (v : BitVec 32) (w : World) (x : FlashAt w h m) (hi : i < 4096) :
    Calls Try.prog 78 #[.pointer (some ⟨h.f, 0, none⟩), .int .i64 (i : Int), .int .u32 (U v)] w (Ran h (fProgram m i v) w) := by
  obtain ⟨b, hb⟩ : ∃ b, b = i / 64 := ⟨_, rfl⟩
  have x3 := ((x.alloc (.cells #[.pointer (some ⟨h.f, 0, none⟩)] 26)).alloc (.cells #[.int .i64 (i : Int)] 3)).alloc (.cells #[.int .u32 (U v)] 33)
  have t3 := (((Turned.refl h.own w).alloc (.cells #[.pointer (some ⟨h.f, 0, none⟩)] 26)).alloc (.cells #[.int .i64 (i : Int)] 3)).alloc (.cells #[.int .u32 (U v)] 33)
  have a1 : At (((w.alloc (.cells #[.pointer (some ⟨h.f, 0, none⟩)] 26)).alloc (.cells #[.int .i64 (i : Int)] 3)).alloc (.cells #[.int .u32 (U v)] 33)) w.heap.size 26 [.pointer (some ⟨h.f, 0, none⟩)] :=
    ((At.alloc_new _ _ _ rfl rfl).alloc _).alloc _
  have a2 : At (((w.alloc (.cells #[.pointer (some ⟨h.f, 0, none⟩)] 26)).alloc (.cells #[.int .i64 (i : Int)] 3)).alloc (.cells #[.int .u32 (U v)] 33)) (w.heap.size + 1) 3 [.int .i64 (i : Int)] :=
    (At.alloc_new _ _ _ (by rw [World.size_alloc]) rfl).alloc _
  have a3 : At (((w.alloc (.cells #[.pointer (some ⟨h.f, 0, none⟩)] 26)).alloc (.cells #[.int .i64 (i : Int)] 3)).alloc (.cells #[.int .u32 (U v)] 33)) (w.heap.size + 1 + 1) 33 [.int .u32 (U v)] :=
    At.alloc_new _ _ _ (by rw [World.size_alloc, World.size_alloc]) rfl
  have a4 : ∀ i, h.c.own i → i < w.heap.size := fun i hi => x.c_lt hi
  obtain ⟨W, hW⟩ : ∃ W, W = (((w.alloc (.cells #[.pointer (some ⟨h.f, 0, none⟩)] 26)).alloc (.cells #[.int .i64 (i : Int)] 3)).alloc (.cells #[.int .u32 (U v)] 33)) := ⟨_, rfl⟩
  rw [← hW] at x3 t3 a1 a2 a3
  have HW := Lib.hid hW
  clear hW
  have hrun := fun n => (x3.locks.drewN n).look b (by omega)
  have g3 := x3.own.cell 3
  have g4 := x3.own.cell 4
  have g5 := x3.own.cell 5
  have g6 := x3.own.cell 6
  simp only [flCells, List.getElem?_cons_zero, List.getElem?_cons_succ] at g3 g4 g5 g6
  have c1 := a1.cell 0
  have c2 := a2.cell 0
  have c3 := a3.cell 0
  simp only [List.getElem?_cons_zero] at c1 c2 c3
  have f3 := x3.own.frozen 3
  have f5 := x3.own.frozen 5
  have f6 := x3.own.frozen 6
  have h0 : (0 : Int) ≤ (i : Int) := by omega
  have h1 : (i : Int) ≤ 4096 := by omega
  have HB := Lib.hid hb
  have X3 := Lib.hid x3
  have T3 := Lib.hid t3
  have A1 := Lib.hid a1
  have A2 := Lib.hid a2
  have A3 := Lib.hid a3
  have A4 := Lib.hid a4
  unfold fProgram
  rw [← hb]
  clear hb x3 t3 a1 a2 a3 a4 x
  by_cases hl : lk m.locks b = true
  · rw [if_pos hl]
    rw [hl] at hrun
    simp only [zI, if_true] at hrun
    clear hl
    go_enter Try.func78, Try.ntmps78
    go_wp2
    rw [← HW.out]
    go_quiet ((go_at_call 89; exact Calls.quiet_of_same (block_is _ _ _ HB.out (by omega))))
    go_wp2
    go_end0
    exact ran_new h.j1 h.j2 h.j3 ((X3.out.drewN nq).putErrors _) (turned_f (T3.out.drewN nq) _ _)
  · rw [if_neg hl]
    rw [show lk m.locks b = false by simpa using hl] at hrun
    simp only [zI, Bool.false_eq_true, if_false] at hrun
    clear hl
    go_enter Try.func78, Try.ntmps78
    go_wp2
    rw [← HW.out]
    go_quiet ((go_at_call 89; exact Calls.quiet_of_same (block_is _ _ _ HB.out (by omega))))
    go_wp2
    go_end0
    refine ran_new w.heap.size (w.heap.size + 1) (w.heap.size + 1 + 1) ((X3.out.drewN nq).begin { h with j1 := w.heap.size, j2 := w.heap.size + 1, j3 := w.heap.size + 1 + 1 } { m with job := 64, at_ := i, v := v, left := 3 } _ rfl rfl rfl rfl rfl rfl ⟨fun _ => ⟨A1.out.drewN nq, A2.out.drewN nq, A3.out.drewN nq, ?_⟩, fun e => by cases e⟩) (turned_f (turned_f (T3.out.drewN nq) _ _) _ _)
    intro y hy
    have := A4.out y hy
    rintro (e | e | e) <;> simp only at e <;> omega
end Go.Proofs.Ytfckgfimmoinmaa
