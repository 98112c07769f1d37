/- Contracts of package cfi: what mode id shows; what belongs to a pending command. -/
import Derived.Test.YtfckgfimmoinmaaCfi2
import Derived.StillTailTactics
namespace Go.Proofs.Ytfckgfimmoinmaa
open Go.RowKit Bm

theorem block_is (i b : Nat) (w : World) (hb : b = i / 64) (hi : i ≤ 1000000) :
    Calls Try.prog 89 #[.int .i64 (i : Int)] w fun e w' => e = .returned (.int .i64 (b : Int)) ∧ w' = w := by
  subst hb
  exact block_any i w hi
theorem zI_lk (b : Bool) : zI b = U (if b = true then 1#32 else 0#32) := by cases b <;> rfl

set_option maxRecDepth 100000 in
set_option maxHeartbeats 1000000 in
theorem id_any (h : Fh) (m : FlashM) (i : Nat) (w : World) (x : FlashAt w h m) (hi : i < 4096) :
    Calls Try.prog 74 #[.pointer (some ⟨h.f, 0, none⟩), .int .i64 (i : Int)] w fun e w' => e = .returned (.int .u32 (U (fId m i))) ∧ ∃ n, w' = w.drewN n := by
  have g4 := x.own.cell 4
  simp only [flCells, List.getElem?_cons_zero, List.getElem?_cons_succ] at g4
  obtain ⟨b, hb⟩ : ∃ b, b = i / 64 := ⟨_, rfl⟩
  have hrun := fun n => (x.locks.drewN n).look b (by omega)
  have h0 : (0 : Int) ≤ (i : Int) := by omega
  have h1 : (i : Int) ≤ 4096 := by omega
  unfold fId
  rw [← hb]
  have HB := Lib.hid hb
  clear hb
  have X := Lib.hid x
  clear x
  by_cases c0 : i % 64 = 0
  · have q0 : ((i : Int) % 64 == 0) = true := by rw [beq_iff_eq]; omega
    rw [if_pos c0]
    clear c0
    go_enter Try.func74, Try.ntmps74
    go_wp2
    go_ret
    exact ⟨rfl, 0, rfl⟩
  have q0 : ((i : Int) % 64 == 0) = false := by rw [beq_eq_false_iff_ne]; omega
  by_cases c1 : i % 64 = 1
  · have q1 : ((i : Int) % 64 == 1) = true := by rw [beq_iff_eq]; omega
    rw [if_neg c0, if_pos c1]
    clear c0 c1
    go_enter Try.func74, Try.ntmps74
    go_wp2
    go_ret
    exact ⟨rfl, 0, rfl⟩
  have q1 : ((i : Int) % 64 == 1) = false := by rw [beq_eq_false_iff_ne]; omega
  by_cases c2 : i % 64 = 2
  · have q2 : ((i : Int) % 64 == 2) = true := by rw [beq_iff_eq]; omega
    rw [if_neg c0, if_neg c1, if_pos c2]
    clear c0 c1 c2
    simp only [zI_lk] at hrun
    generalize (if lk m.locks b = true then 1#32 else 0#32) = z at hrun ⊢
    go_enter Try.func74, Try.ntmps74
    go_wp2
    go_quiet ((go_at_call 89; exact Calls.quiet_of_same (block_is _ _ _ HB.out (by omega))))
    go_wp2
    go_ret
    exact ⟨rfl, _, rfl⟩
  have q2 : ((i : Int) % 64 == 2) = false := by rw [beq_eq_false_iff_ne]; omega
  rw [if_neg c0, if_neg c1, if_neg c2]
  clear c0 c1 c2
  go_enter Try.func74, Try.ntmps74
  go_wp2
  go_ret
  exact ⟨rfl, 0, rfl⟩

theorem ChipAt.alloc {w : World} {h : Hd} {c : ChipM} (hc : ChipAt w h c) (o : Obj) : ChipAt (w.alloc o) h c := ⟨hc.own.alloc o, hc.words.alloc o, hc.wear.alloc o, hc.room, hc.cap⟩
theorem JobAt.alloc {w : World} {h : Fh} {m : FlashM} (x : JobAt w h m) (o : Obj) : JobAt (w.alloc o) h m :=
  ⟨fun j => by
    obtain ⟨a, b, c, d⟩ := x.prog j
    exact ⟨a.alloc o, b.alloc o, c.alloc o, d⟩,
   fun j => by
    obtain ⟨a, b, d⟩ := x.erase j
    exact ⟨a.alloc o, b.alloc o, d⟩⟩
theorem FlashAt.alloc {w : World} {h : Fh} {m : FlashM} (x : FlashAt w h m) (o : Obj) : FlashAt (w.alloc o) h m :=
  ⟨x.chip.alloc o, x.own.alloc o, x.locks.of_block (Below.heap_alloc w o h.l x.locks.lt), x.job.alloc o⟩

/-- A job begins: the flash's two cells are set, and its variables are the three blocks that were made. -/
theorem FlashAt.begin {w : World} {h : Fh} {m : FlashM} (x : FlashAt w h m) (h' : Fh) (m' : FlashM) (u : Value)
    (hc : h'.c = h.c) (hf : h'.f = h.f) (hl : h'.l = h.l) (e : ((flCells h m).set 5 (.int .i64 m'.left)).set 6 u = flCells h' m') (ec : m'.chip = m.chip) (el : m'.locks = m.locks) (ej : JobAt w h' m') :
    FlashAt ((w.setCell ⟨h.f, 5, none⟩ (.int .i64 m'.left)).setCell ⟨h.f, 6, none⟩ u) h' m' := by
  have n1 := x.fp
  have n2 := x.fbw
  have n3 := x.fbe
  have n4 := x.fl
  refine ⟨?_, ?_, ?_, ?_⟩
  · rw [ec, hc]
    exact ⟨(x.chip.own.far (p := ⟨h.f, 5, none⟩) (Ne.symm n1) _).far (p := ⟨h.f, 6, none⟩) (Ne.symm n1) u, (x.chip.words.far (p := ⟨h.f, 5, none⟩) (Ne.symm n2) _).far (p := ⟨h.f, 6, none⟩) (Ne.symm n2) u,
      (x.chip.wear.far (p := ⟨h.f, 5, none⟩) (Ne.symm n3) _).far (p := ⟨h.f, 6, none⟩) (Ne.symm n3) u, x.chip.room, x.chip.cap⟩
  · rw [hf]
    exact ((x.own.put 5 _).put 6 u).as e
  · rw [el, hl]
    exact (x.locks.of_block (Below.heap_setCell w ⟨h.f, 5, none⟩ _ h.l (Ne.symm n4))).of_block (Below.heap_setCell _ ⟨h.f, 6, none⟩ u h.l (Ne.symm n4))
  · exact (ej.far (by rw [hf]; exact x.own) (p := ⟨h.f, 5, none⟩) hf.symm _).far (by rw [hf]; exact x.own.put 5 _) (p := ⟨h.f, 6, none⟩) hf.symm u
end Go.Proofs.Ytfckgfimmoinmaa
