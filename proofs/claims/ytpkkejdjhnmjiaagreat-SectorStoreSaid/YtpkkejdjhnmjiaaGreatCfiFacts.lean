/- Small maps that a statement writes out: a map of memory that reads as a function. | Plain facts of flashes: what calls leave where the power is on. | Plain facts of flashes for CfiLocks and CfiJobs. -/
import Derived.Test.YtpkkejdjhnmjiaaGreatCfiS
import Derived.Test.YtpkkejdjhnmjiaaGreatCfiA
import Derived.Test.YtpkkejdjhnmjiaaGreatNorLawM
import Derived.Test.YtpkkejdjhnmjiaaGreatCfiB
namespace Go.Proofs.YtpkkejdjhnmjiaaGreat
open Go.RowKit Go.Maps Bm
def iOk (i : Int) : Prop := -9223372036854775808 ≤ i ∧ i ≤ 9223372036854775807
def uOk (i : Int) : Prop := 0 ≤ i ∧ i ≤ 4294967295
theorem wf_i {i : Int} (h : iOk i) : (Lit.int .i64 i).wf = true := by
  obtain ⟨a, b⟩ := h
  simp [Lit.wf, IntKind.signed, IntKind.bits, IntKind.min, IntKind.max]; omega
theorem wf_u {i : Int} (h : uOk i) : (Lit.int .u32 i).wf = true := by
  obtain ⟨a, b⟩ := h
  simp [Lit.wf, IntKind.signed, IntKind.bits, IntKind.min, IntKind.max]; omega
structure MapIs (w : World) (b n : Nat) (g : Int → Int) : Prop where
  ex : ∃ D : DataW Unit, w.ownsMap Tryz.prog 3 (plainElem Tryz.prog 36) b n D ∧ ∀ i : Int, iOk i → D.atKey (.int .i64 i) (.lit (.int .u32 0)) = .lit (.int .u32 (g i))
theorem MapIs.news (w : World) : MapIs (w.alloc (.map #[] 0)) w.heap.size 0 (fun _ => 0) :=
  ⟨.map [], World.ownsMap_made w _ _ _, fun _ _ => rfl⟩
theorem MapIs.look {w : World} {b n : Nat} {g : Int → Int} (h : MapIs w b n g) (i : Int) (hi : iOk i) :
    (Instr.lookup 94 (.map (some b)) (.int .i64 i) false).run Tryz.prog w = .ok (.int .u32 (g i)) w := by
  obtain ⟨D, h1, h3⟩ := h
  obtain ⟨c, hrun, hat, _⟩ := h1.lookup_int lawI Tryz.underlying94 Tryz.underlying36 (zeroU w) (keyOf_int_mk Tryz.underlying3 (wf_i hi))
  rw [h3 i hi] at hat
  simp only [DataW.lit.injEq, Lit.int.injEq, true_and] at hat
  rw [hrun, hat]
theorem MapIs.store {w : World} {b n : Nat} {g : Int → Int} (h : MapIs w b n g) (hn : n < 100) (i v : Int) (_hi : iOk i) (hv : uOk v) :
    ∃ w', (Instr.mapUpdate 94 (.map (some b)) (.int .i64 i) (.int .u32 v)).run Tryz.prog w = .ok () w' ∧ MapIs w' b (n + 1) (fun j => if j = i then v else g j) ∧ Turned (Just b) w w' := by
  obtain ⟨D, h1, h3⟩ := h
  obtain ⟨w', hrun, ho, ht⟩ := h1.store lawI Tryz.underlying94 (by unfold maxLen; omega) (keyOf_int_mk Tryz.underlying3 (wf_i _hi)) (plainElem_int (H := Unit) Tryz.underlying36 (q := .u32) (a := v) (wf_u hv))
  refine ⟨w', hrun, ⟨_, ho, ?_⟩, ?_⟩
  · intro j hj
    by_cases e : j = i
    · subst e
      rw [if_pos rfl, atKey_put_same h1.isMap (isKeyI _)]
    · rw [if_neg e, atKey_put_other (by intro e'; simp only [Lit.int.injEq, true_and] at e'; exact e e')]
      exact h3 j hj
  · exact (Turned.refl _ _).grown ht.grown (fun k hk _ => by simp only [Option.some.injEq] at hk; exact hk.symm)
end Go.Proofs.YtpkkejdjhnmjiaaGreat
namespace Go.Proofs.YtpkkejdjhnmjiaaGreat
open Bm
structure Idle (m : FlashM) : Prop where
  up : m.chip.up = true
  wait : m.wait = 0
  job : m.job = 0
theorem fRefuse_on {m : FlashM} (h : m.chip.up = true) (a : Int) (h0 : 0 ≤ a) (h1 : a < m.chip.ws.length) : fRefuse m a = 0 := by
  unfold fRefuse mRefuse
  rw [if_neg (by rw [h]; decide), if_neg (by omega)]
theorem fWrite_at {m : FlashM} (h : m.chip.up = true) (a : Int) (h0 : 0 ≤ a) (h1 : a < m.chip.ws.length) (v : BitVec 32) : fWrite m a v = (fWriteDo m a.toNat v, 0) := if_pos (fRefuse_on h a h0 h1)
theorem Idle.write {m : FlashM} (h : Idle m) (a : Int) (h0 : 0 ≤ a) (h1 : a < m.chip.ws.length) (v low : BitVec 32) (hl : v &&& 255#32 = low) : fWrite m a v = (fCommand m low, 0) := by
  rw [fWrite_at h.up a h0 h1]
  unfold fWriteDo
  rw [if_neg (by simpa using h.job), if_neg (by simpa using h.wait), hl]
end Go.Proofs.YtpkkejdjhnmjiaaGreat
namespace Go.Proofs.YtpkkejdjhnmjiaaGreat
open Bm
theorem fTick_on {m : FlashM} (h : m.chip.up = true) (hl : 0 < m.chip.ws.length) (n : Int) (hn : 0 ≤ n) : fTick m n = if m.job = 0 then (m, 0) else if n < m.left then ({ m with left := m.left - n }, 0) else fDone m := by
  unfold fTick
  rw [if_neg (by rw [fRefuse_on h 0 (by omega) (by omega)]; decide), if_neg (by omega)]
theorem fTick_wait {m : FlashM} (h : m.chip.up = true) (hl : 0 < m.chip.ws.length) (n : Int) (hn : 0 ≤ n) (j : m.job ≠ 0) (k : n < m.left) : fTick m n = ({ m with left := m.left - n }, 0) := by rw [fTick_on h hl n hn, if_neg j, if_pos k]
theorem fTick_done {m : FlashM} (h : m.chip.up = true) (hl : 0 < m.chip.ws.length) (n : Int) (hn : 0 ≤ n) (j : m.job ≠ 0) (k : m.left ≤ n) : fTick m n = fDone m := by rw [fTick_on h hl n hn, if_neg j, if_neg (by omega)]
theorem fJob_prog {m : FlashM} (h : m.job = 64) : fJob m = mProgram m.chip m.at_ m.v := if_pos h
theorem fJob_erase {m : FlashM} (h : m.job = 32) : fJob m = mErase m.chip m.at_ := if_neg (by rw [h]; decide)
section
variable (b : Nat) (c : ChipM) (hu : c.up = true) (hl : c.ws.length = 128)
include hu hl
end
end Go.Proofs.YtpkkejdjhnmjiaaGreat
