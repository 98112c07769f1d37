/- Contracts of package cfi: the value that belongs to Erase, and to Lock. -/
import Derived.Test.YtfckgfimmoinmaaCfi4
namespace Go.Proofs.Ytfckgfimmoinmaa
open Go.RowKit Bm

theorem U_bne_false {x y : BitVec 32} (h : x = y) : (U x != U y) = false := by rw [h]; simp
theorem U_bne_true {x y : BitVec 32} (h : ¬ x = y) : (U x != U y) = true := by rw [bne_iff_ne]; exact fun e => h (U_inj e)
theorem U_beq_true {x y : BitVec 32} (h : x = y) : (U x == U y) = true := by rw [h]; simp

set_option maxRecDepth 100000 in
set_option maxHeartbeats 2000000 in
theorem ferase_any (h : Fh) (m : FlashM) (i : Nat) (v : BitVec 32) (w : World) (x : FlashAt w h m) (hi : i < 4096) :
    Calls Try.prog 79 #[.pointer (some ⟨h.f, 0, none⟩), .int .i64 (i : Int), .int .u32 (U v)] w (Ran h (fErase m i (v &&& 255#32)) w) := by
  obtain ⟨b, hb⟩ : ∃ b, b = i / 64 := ⟨_, rfl⟩
  have x3 := ((x.alloc (.cells #[.pointer (some ⟨h.f, 0, none⟩)] 26)).alloc (.cells #[.int .i64 (b : Int)] 3))
  have t3 := ((Turned.refl h.own w).alloc (.cells #[.pointer (some ⟨h.f, 0, none⟩)] 26)).alloc (.cells #[.int .i64 (b : Int)] 3)
  have a1 : At ((w.alloc (.cells #[.pointer (some ⟨h.f, 0, none⟩)] 26)).alloc (.cells #[.int .i64 (b : Int)] 3)) w.heap.size 26 [.pointer (some ⟨h.f, 0, none⟩)] :=
    ((At.alloc_new _ _ _ rfl rfl).alloc _)
  have a2 : At ((w.alloc (.cells #[.pointer (some ⟨h.f, 0, none⟩)] 26)).alloc (.cells #[.int .i64 (b : Int)] 3)) (w.heap.size + 1) 3 [.int .i64 (b : Int)] :=
    (At.alloc_new _ _ _ (by rw [World.size_alloc]) rfl)
  have a4 : ∀ i, h.c.own i → i < w.heap.size := fun i hi => x.c_lt hi
  obtain ⟨W, hW⟩ : ∃ W, W = ((w.alloc (.cells #[.pointer (some ⟨h.f, 0, none⟩)] 26)).alloc (.cells #[.int .i64 (b : Int)] 3)) := ⟨_, rfl⟩
  rw [← hW] at x3 t3 a1 a2
  have HW := Lib.hid hW
  clear hW
  have hrun := fun n => (x3.locks.drewN n).look b (by omega)
  have g3 := x3.own.cell 3
  have g4 := x3.own.cell 4
  have g5 := x3.own.cell 5
  have g6 := x3.own.cell 6
  simp only [flCells, List.getElem?_cons_zero, List.getElem?_cons_succ] at g3 g4 g5 g6
  have c1 := a1.cell 0
  have c2 := a2.cell 0
  simp only [List.getElem?_cons_zero] at c1 c2
  have f3 := x3.own.frozen 3
  have f5 := x3.own.frozen 5
  have f6 := x3.own.frozen 6
  have w3 := x.own.cell 3
  have wf3 := x.own.frozen 3
  have hf := x.own.lt
  simp only [flCells, List.getElem?_cons_zero, List.getElem?_cons_succ] at w3
  have W3 := Lib.hid w3
  have X0 := Lib.hid x
  have WF3 := Lib.hid wf3
  have HF := Lib.hid hf
  clear w3 wf3 hf
  have HB := Lib.hid hb
  have X3 := Lib.hid x3
  have T3 := Lib.hid t3
  have A1 := Lib.hid a1
  have A2 := Lib.hid a2
  have A4 := Lib.hid a4
  unfold fErase
  rw [← hb]
  clear hb x3 t3 a1 a2 a4 x
  by_cases hq : v &&& 255#32 = 208#32
  · have q : (U (v &&& 255#32) != 208) = false := U_bne_false (y := 208#32) hq
    rw [if_neg (by simpa using hq)]
    clear hq
    by_cases hl : lk m.locks b = true
    · rw [if_pos hl]
      rw [hl] at hrun
      simp only [zI, if_true] at hrun
      clear hl
      go_enter Try.func79, Try.ntmps79
      go_wp2_with (go_at_call 89; (with_reducible refine (block_is _ _ _ HB.out (by omega)).mono ?_); rintro e w' ⟨rfl, rfl⟩)
      rw [← HW.out]
      go_quiet (fail)
      go_wp2
      go_end0
      exact ran_new h.j1 h.j2 h.j3 ((X3.out.drewN nq).putErrors _) (turned_f (T3.out.drewN nq) _ _)
    · rw [if_neg hl]
      rw [show lk m.locks b = false by simpa using hl] at hrun
      simp only [zI, Bool.false_eq_true, if_false] at hrun
      clear hl
      go_enter Try.func79, Try.ntmps79
      go_wp2_with (go_at_call 89; (with_reducible refine (block_is _ _ _ HB.out (by omega)).mono ?_); rintro e w' ⟨rfl, rfl⟩)
      rw [← HW.out]
      go_quiet (fail)
      go_wp2
      go_end0
      refine ran_new w.heap.size (w.heap.size + 1) h.j3 ((X3.out.drewN nq).begin { h with j1 := w.heap.size, j2 := w.heap.size + 1 } { m with job := 32, at_ := b, left := 20 } _ rfl rfl rfl rfl rfl rfl ⟨fun e => (by cases e), fun _ => ⟨A1.out.drewN nq, A2.out.drewN nq, ?_⟩⟩) (turned_f (turned_f (T3.out.drewN nq) _ _) _ _)
      intro y hy
      have := A4.out y hy
      constructor <;> simp only [ne_eq] <;> omega
  · have q : (U (v &&& 255#32) != 208) = true := U_bne_true (y := 208#32) hq
    rw [if_pos hq]
    clear hq hrun g3 g4 g5 g6 c1 c2 f3 f5 f6
    have w3 := W3.out
    have wf3 := WF3.out
    have hf := HF.out
    have hf1 : h.f < w.heap.size + 1 := by omega
    have hf2 : h.f ≠ w.heap.size := by omega
    have hf3 : h.f ≠ w.heap.size + 1 := by omega
    go_enter Try.func79, Try.ntmps79
    go_wp2_with (first
      | (go_at_call 89; (with_reducible refine (block_is _ _ _ HB.out (by omega)).mono ?_); rintro e w' ⟨rfl, rfl⟩; skip))
    go_end0
    exact ran_new h.j1 h.j2 h.j3 (((X0.out.putErrors _).alloc _).alloc _) (((turned_f (Turned.refl _ _) _ _).alloc _).alloc _)

theorem FlashAt.locksTo {w w' : World} {h : Fh} {m : FlashM} (x : FlashAt w h m) {l : List Bool} (t : Turned (Just h.l) w w') (hl : LocksAt w' h.l l) : FlashAt w' h { m with locks := l } := by
  have lc := x.lc
  have fl := x.fl
  refine ⟨x.chip.kept t ?_, x.own.kept t fl, hl, ⟨fun j => ?_, fun j => ?_⟩⟩
  · intro i hi e
    exact lc (by unfold Just at e; rw [← e]; exact hi)
  · obtain ⟨a, b, c, d⟩ := x.job.prog j
    exact ⟨a.kept t (fun e => x.locks.ne_cells a e), b.kept t (fun e => x.locks.ne_cells b e), c.kept t (fun e => x.locks.ne_cells c e), d⟩
  · obtain ⟨a, b, d⟩ := x.job.erase j
    exact ⟨a.kept t (fun e => x.locks.ne_cells a e), b.kept t (fun e => x.locks.ne_cells b e), d⟩
theorem turned_l {h : Fh} {w w' : World} (t : Turned (Just h.l) w w') : Turned h.own w w' := t.mono fun _ _ e => .inr (.inr e)

set_option maxRecDepth 100000 in
set_option maxHeartbeats 2000000 in
theorem flock_any (h : Fh) (m : FlashM) (i : Nat) (v : BitVec 32) (w : World) (x : FlashAt w h m) (hi : i < 4096) (hll : m.locks.length = 64) :
    Calls Try.prog 80 #[.pointer (some ⟨h.f, 0, none⟩), .int .i64 (i : Int), .int .u32 (U v)] w (Ran h (fLock m i (v &&& 255#32)) w) := by
  obtain ⟨b, hb⟩ : ∃ b, b = i / 64 := ⟨_, rfl⟩
  have g3 := x.own.cell 3
  have g4 := x.own.cell 4
  simp only [flCells, List.getElem?_cons_zero, List.getElem?_cons_succ] at g3 g4
  have f3 := x.own.frozen 3
  have X := Lib.hid x
  unfold fLock
  rw [← hb]
  have xl : LocksAt w.drew h.l m.locks := x.locks.of_block rfl
  by_cases h1 : v &&& 255#32 = 1#32
  · have q1 : (U (v &&& 255#32) == 1) = true := U_beq_true (y := 1#32) h1
    rw [if_pos h1]
    obtain ⟨w1, hrun, hl1, ht1⟩ := xl.store b (by omega) hll
    have HB := Lib.hid hb
    have HL := Lib.hid hl1
    have HT := Lib.hid ht1
    clear hb h1 x hl1 ht1 xl
    go_enter Try.func80, Try.ntmps80
    go_wp2
    refine wp_region_still_tail 6 (by kernel_rfl) (by kernel_rfl) ?_
    simp only [List.take_succ_cons, List.take_zero, List.drop_succ_cons, List.drop_zero]
    change wpStill _ _ (World.drew _) _ _ _
    repeat still_step
    still_call (block_is _ _ _ HB.out (by omega))
    repeat still_step
    refine wpStill_nil ?_
    change wpList _ _ _ _ _ (World.drew _)
    go_wp2
    go_end0
    exact ran_new h.j1 h.j2 h.j3 ((X.out.kept (Turned.refl NoBlock w).drew (fun _ _ h => h)).locksTo HT.out HL.out) (((Turned.refl _ w).drew).trans (turned_l HT.out))
  have q1 : (U (v &&& 255#32) == 1) = false := U_beq_false (y := 1#32) h1
  rw [if_neg h1]
  clear h1
  by_cases h2 : v &&& 255#32 = 208#32
  · have q2 : (U (v &&& 255#32) == 208) = true := U_beq_true (y := 208#32) h2
    rw [if_pos h2]
    have hh := fun ty => xl.drop b (by omega) hll ty
    have HH := Lib.hid hh
    have HB := Lib.hid hb
    clear hb h2 x hh xl
    go_enter Try.func80, Try.ntmps80
    go_wp2
    refine wp_region_still_tail 6 (by kernel_rfl) (by kernel_rfl) ?_
    simp only [List.take_succ_cons, List.take_zero, List.drop_succ_cons, List.drop_zero]
    change wpStill _ _ (World.drew _) _ _ _
    repeat still_step
    still_call (block_is _ _ _ HB.out (by omega))
    repeat still_step
    refine wpStill_nil ?_
    change wpList _ _ _ _ _ (World.drew _)
    obtain ⟨w1, hrun, hl1, ht1⟩ := HH.out 0
    have HL := Lib.hid hl1
    have HT := Lib.hid ht1
    clear hl1 ht1
    go_wp2
    go_end0
    exact ran_new h.j1 h.j2 h.j3 ((X.out.kept (Turned.refl NoBlock w).drew (fun _ _ h => h)).locksTo HT.out HL.out) (((Turned.refl _ w).drew).trans (turned_l HT.out))
  have q2 : (U (v &&& 255#32) == 208) = false := U_beq_false (y := 208#32) h2
  rw [if_neg h2]
  clear h2 hb xl x
  go_enter Try.func80, Try.ntmps80
  go_wp2
  go_end0
  exact ran_new h.j1 h.j2 h.j3 (X.out.putErrors _) (turned_f (Turned.refl _ _) _ _)
end Go.Proofs.Ytfckgfimmoinmaa
