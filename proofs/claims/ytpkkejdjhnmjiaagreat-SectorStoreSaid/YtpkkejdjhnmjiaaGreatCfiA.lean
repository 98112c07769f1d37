/- A flash as plain data, and what becomes of it by each call (chapter 3 of the document). | The locks of a flash: a map of memory that reads as a list of 64. | Contracts of package cfi, the small ones: a flash that lies in memory as the plain one says. | Contracts of package cfi: what belongs to a pending command, and commands. | Contracts of package cfi: what mode id shows; what belongs to a pending command. | Contracts of package cfi: the values that belong to Program, Erase and Lock. | Contracts of package cfi: the value that belongs to Erase, and to Lock. -/
import Derived.Test.YtpkkejdjhnmjiaaGreatNorA
import Derived.Test.YtpkkejdjhnmjiaaGreatRows
import Derived.Maps.OwnSet
import Derived.WalkKit
import Derived.Test.YtpkkejdjhnmjiaaGreatNorBR
import Derived.Deep.QuietTactic
import Derived.BigQuiet
import Derived.Deep.RegionWith
import Derived.Lib.Hide
import Derived.Laws.EntriesVeiled
import Derived.StillTailTactics
namespace Go.Proofs.YtpkkejdjhnmjiaaGreat
open Bm
structure FlashM where
  chip : ChipM
  mode : Int
  wait : Int
  errors : BitVec 32
  locks : List Bool
  job : Int
  at_ : Nat
  v : BitVec 32
  left : Int
def lk (l : List Bool) (i : Nat) : Bool := l.getD i false
theorem lk_set_self (l : List Bool) (i : Nat) (x : Bool) (h : i < l.length) : lk (l.set i x) i = x := by simp [lk, List.getD, h]
theorem lk_set_other (l : List Bool) (i j : Nat) (x : Bool) (h : i ≠ j) : lk (l.set i x) j = lk l j := by simp [lk, List.getD, h]
def noLocks : List Bool := List.replicate 64 false
theorem lk_none (i : Nat) : lk noLocks i = false := by
  unfold lk noLocks
  simp only [List.getD, List.getElem?_replicate]
  split <;> rfl
structure FlashOk (k : Nat) (m : FlashM) : Prop where
  chip : ChipOk k m.chip
  mode : m.mode = 0 ∨ m.mode = 1 ∨ m.mode = 2 ∨ m.mode = 3
  wait : m.wait = 0 ∨ m.wait = 64 ∨ m.wait = 32 ∨ m.wait = 96
  errors : m.errors &&& 128#32 = 0#32
  locks : m.locks.length = 64
  job : m.job = 0 ∨ m.job = 64 ∨ m.job = 32
  idle : m.job = 0 → m.at_ = 0 ∧ m.v = 0#32 ∧ m.left = 0
  busy : m.job ≠ 0 → m.mode = 1 ∧ m.wait = 0 ∧ 0 < m.left ∧ m.left ≤ 20
  prog : m.job = 64 → m.at_ < m.chip.ws.length
  erase : m.job = 32 → m.at_ < m.chip.wear.length
def fStatus (m : FlashM) : BitVec 32 := if m.job = 0 then m.errors ||| 128#32 else m.errors
def fWith (m : FlashM) (b : BitVec 32) : FlashM := { m with errors := m.errors ||| b }
def fCommand (m : FlashM) (low : BitVec 32) : FlashM :=
  if low = 255#32 then { m with mode := 0 }
  else if low = 112#32 then { m with mode := 1 }
  else if low = 144#32 then { m with mode := 2 }
  else if low = 152#32 then { m with mode := 3 }
  else if low = 80#32 then { m with mode := 1, errors := 0#32 }
  else if low = 64#32 then { m with mode := 1, wait := 64 }
  else if low = 32#32 then { m with mode := 1, wait := 32 }
  else if low = 96#32 then { m with mode := 1, wait := 96 }
  else fWith { m with mode := 1 } 48#32
def fProgram (m : FlashM) (i : Nat) (v : BitVec 32) : FlashM :=
  if lk m.locks (i / 64) = true then fWith m 18#32 else { m with job := 64, at_ := i, v := v, left := 3 }
def fErase (m : FlashM) (i : Nat) (low : BitVec 32) : FlashM :=
  if low ≠ 208#32 then fWith m 48#32 else if lk m.locks (i / 64) = true then fWith m 34#32 else { m with job := 32, at_ := i / 64, left := 20 }
def fLock (m : FlashM) (i : Nat) (low : BitVec 32) : FlashM :=
  if low = 1#32 then { m with locks := m.locks.set (i / 64) true } else if low = 208#32 then { m with locks := m.locks.set (i / 64) false } else fWith m 48#32
def fWaited (m : FlashM) (i : Nat) (v : BitVec 32) : FlashM :=
  if m.wait = 64 then fProgram { m with wait := 0, mode := 1 } i v
  else if m.wait = 32 then fErase { m with wait := 0, mode := 1 } i (v &&& 255#32)
  else fLock { m with wait := 0, mode := 1 } i (v &&& 255#32)
def fRefuse (m : FlashM) (a : Int) : Int := mRefuse m.chip a m.chip.ws.length
def fWriteDo (m : FlashM) (i : Nat) (v : BitVec 32) : FlashM :=
  if m.job ≠ 0 then m else if m.wait ≠ 0 then fWaited m i v else fCommand m (v &&& 255#32)
def fWrite (m : FlashM) (a : Int) (v : BitVec 32) : FlashM × Int :=
  if fRefuse m a = 0 then (fWriteDo m a.toNat v, 0) else (m, fRefuse m a)
def fId (m : FlashM) (i : Nat) : BitVec 32 :=
  if i % 64 = 0 then 137#32 else if i % 64 = 1 then 24#32 else if i % 64 = 2 then (if lk m.locks (i / 64) = true then 1#32 else 0#32) else 0#32
def fQuery (m : FlashM) (i : Nat) : BitVec 32 :=
  if i = 16 then 81#32 else if i = 17 then 82#32 else if i = 18 then 89#32 else if i = 44 then BitVec.ofNat 32 m.chip.wear.length else 0#32
def fReadDo (m : FlashM) (i : Nat) : BitVec 32 :=
  if m.mode = 0 then wd m.chip.ws i else if m.mode = 2 then fId m i else if m.mode = 3 then fQuery m i else fStatus m
def fRead (m : FlashM) (a : Int) : BitVec 32 × Int :=
  if fRefuse m a = 0 then (fReadDo m a.toNat, 0) else (0#32, fRefuse m a)
def fJob (m : FlashM) : ChipM × Int := if m.job = 64 then mProgram m.chip m.at_ m.v else mErase m.chip m.at_
def fIdle (m : FlashM) (c : ChipM) : FlashM := { m with chip := c, job := 0, at_ := 0, v := 0#32, left := 0 }
def fDone (m : FlashM) : FlashM × Int :=
  if (fJob m).2 = 5 then (fWith (fIdle m (fJob m).1) 32#32, 0) else (fIdle m (fJob m).1, (fJob m).2)
def fTick (m : FlashM) (n : Int) : FlashM × Int :=
  if fRefuse m 0 ≠ 0 then (m, fRefuse m 0) else if n < 0 then (m, 2) else if m.job = 0 then (m, 0)
  else if n < m.left then ({ m with left := m.left - n }, 0) else fDone m
def fNew (c : ChipM) : FlashM := ⟨c, 0, 0, 0#32, noLocks, 0, 0, 0#32, 0⟩
theorem or_and_zero {a b c : BitVec 32} (h : a &&& c = 0#32) (k : b &&& c = 0#32) : (a ||| b) &&& c = 0#32 := by
  have e : (a ||| b) &&& c = (a &&& c) ||| (b &&& c) := by
    apply BitVec.eq_of_getLsbD_eq
    intro i _
    simp only [BitVec.getLsbD_and, BitVec.getLsbD_or]
    cases a.getLsbD i <;> cases b.getLsbD i <;> simp
  rw [e, h, k]
  rfl
section
variable {k : Nat} {m : FlashM}
theorem FlashOk.with (h : FlashOk k m) (b : BitVec 32) (hb : b &&& 128#32 = 0#32) : FlashOk k (fWith m b) :=
  ⟨h.chip, h.mode, h.wait, or_and_zero h.errors hb, h.locks, h.job, h.idle, h.busy, h.prog, h.erase⟩
theorem FlashOk.modeTo (h : FlashOk k m) (j : m.job = 0) (x : Int) (hx : x = 0 ∨ x = 1 ∨ x = 2 ∨ x = 3) : FlashOk k { m with mode := x } :=
  ⟨h.chip, hx, h.wait, h.errors, h.locks, h.job, h.idle, fun e => absurd j e, h.prog, h.erase⟩
theorem FlashOk.waitTo (h : FlashOk k m) (j : m.job = 0) (x : Int) (hx : x = 0 ∨ x = 64 ∨ x = 32 ∨ x = 96) : FlashOk k { m with mode := 1, wait := x } :=
  ⟨h.chip, .inr (.inl rfl), hx, h.errors, h.locks, h.job, h.idle, fun e => absurd j e, h.prog, h.erase⟩
theorem FlashOk.command (h : FlashOk k m) (j : m.job = 0) (low : BitVec 32) : FlashOk k (fCommand m low) := by
  unfold fCommand
  repeat' split
  · exact h.modeTo j 0 (by simp)
  · exact h.modeTo j 1 (by simp)
  · exact h.modeTo j 2 (by simp)
  · exact h.modeTo j 3 (by simp)
  · exact ⟨h.chip, .inr (.inl rfl), h.wait, by simp, h.locks, h.job, h.idle, fun e => absurd j e, h.prog, h.erase⟩
  · exact h.waitTo j 64 (by simp)
  · exact h.waitTo j 32 (by simp)
  · exact h.waitTo j 96 (by simp)
  · exact (h.modeTo j 1 (by simp)).with _ (by decide)
theorem FlashOk.program (h : FlashOk k m) (_j : m.job = 0) (o : m.mode = 1) (q : m.wait = 0) (i : Nat) (v : BitVec 32) (hi : i < m.chip.ws.length) : FlashOk k (fProgram m i v) := by
  unfold fProgram
  split
  · exact h.with _ (by decide)
  · exact ⟨h.chip, h.mode, h.wait, h.errors, h.locks, by simp, by simp, fun _ => ⟨o, q, by simp⟩, fun _ => hi, by simp⟩
theorem FlashOk.eraseW (h : FlashOk k m) (_j : m.job = 0) (o : m.mode = 1) (q : m.wait = 0) (i : Nat) (low : BitVec 32) (hi : i < m.chip.ws.length) : FlashOk k (fErase m i low) := by
  unfold fErase
  split
  · exact h.with _ (by decide)
  · split
    · exact h.with _ (by decide)
    · exact ⟨h.chip, h.mode, h.wait, h.errors, h.locks, by simp, by simp, fun _ => ⟨o, q, by simp⟩, by simp, fun _ => by
        have a := h.chip.words
        have b := h.chip.wears
        show i / 64 < m.chip.wear.length
        omega⟩
theorem FlashOk.lock (h : FlashOk k m) (i : Nat) (low : BitVec 32) : FlashOk k (fLock m i low) := by
  unfold fLock
  split
  · exact ⟨h.chip, h.mode, h.wait, h.errors, by simpa using h.locks, h.job, h.idle, h.busy, h.prog, h.erase⟩
  · split
    · exact ⟨h.chip, h.mode, h.wait, h.errors, by simpa using h.locks, h.job, h.idle, h.busy, h.prog, h.erase⟩
    · exact h.with _ (by decide)
theorem FlashOk.waited (h : FlashOk k m) (j : m.job = 0) (i : Nat) (v : BitVec 32) (hi : i < m.chip.ws.length) : FlashOk k (fWaited m i v) := by
  have g := h.waitTo j 0 (by simp)
  have e : ({ m with wait := 0, mode := 1 } : FlashM) = { m with mode := 1, wait := 0 } := rfl
  unfold fWaited
  rw [e]
  split
  · exact g.program j rfl rfl i v hi
  · split
    · exact g.eraseW j rfl rfl i _ hi
    · exact g.lock i _
theorem FlashOk.writeDo (h : FlashOk k m) (i : Nat) (v : BitVec 32) (hi : i < m.chip.ws.length) : FlashOk k (fWriteDo m i v) := by
  unfold fWriteDo
  split
  · exact h
  · rename_i j
    have j : m.job = 0 := Classical.not_not.1 j
    split
    · exact h.waited j i v hi
    · exact h.command j _
theorem fRefuse_zero {a : Int} (h : fRefuse m a = 0) : m.chip.up = true ∧ 0 ≤ a ∧ a < m.chip.ws.length := refuse_zero h
theorem FlashOk.write (h : FlashOk k m) (a : Int) (v : BitVec 32) : FlashOk k (fWrite m a v).1 := by
  unfold fWrite
  split
  · rename_i hr
    obtain ⟨_, h1, h2⟩ := fRefuse_zero hr
    exact h.writeDo _ _ (by omega)
  · exact h
theorem FlashOk.idleTo (h : FlashOk k m) (c : ChipM) (hc : ChipOk k c) : FlashOk k (fIdle m c) :=
  ⟨hc, h.mode, h.wait, h.errors, h.locks, .inl rfl, fun _ => ⟨rfl, rfl, rfl⟩, fun e => absurd rfl e, by simp [fIdle], by simp [fIdle]⟩
theorem FlashOk.jobChip (h : FlashOk k m) : ChipOk k (fJob m).1 := by
  unfold fJob
  split
  · exact h.chip.program _ _
  · exact h.chip.erase _
theorem FlashOk.done (h : FlashOk k m) : FlashOk k (fDone m).1 := by
  unfold fDone
  split
  · exact (h.idleTo _ h.jobChip).with _ (by decide)
  · exact h.idleTo _ h.jobChip
theorem FlashOk.tick (h : FlashOk k m) (n : Int) : FlashOk k (fTick m n).1 := by
  unfold fTick
  repeat' split
  · exact h
  · exact h
  · exact h
  · rename_i j hn
    have b := h.busy j
    exact ⟨h.chip, h.mode, h.wait, h.errors, h.locks, h.job, fun e => absurd e j, fun _ => ⟨b.1, b.2.1, by show 0 < m.left - n; omega, by show m.left - n ≤ 20; omega⟩, h.prog, h.erase⟩
  · exact h.done
theorem FlashOk.new {c : ChipM} (h : ChipOk k c) : FlashOk k (fNew c) :=
  ⟨h, .inl rfl, .inl rfl, by simp [fNew], by simp [fNew, noLocks], .inl rfl, fun _ => ⟨rfl, rfl, rfl⟩, fun e => absurd rfl e, by simp [fNew], by simp [fNew]⟩
theorem FlashOk.chipTo (h : FlashOk k m) (c : ChipM) (hc : ChipOk k c) : FlashOk k { m with chip := c } :=
  ⟨hc, h.mode, h.wait, h.errors, h.locks, h.job, h.idle, h.busy, fun j => by have := h.prog j; have a := h.chip.words; have b := hc.words; show m.at_ < c.ws.length; omega, fun j => by have := h.erase j; have a := h.chip.wears; have b := hc.wears; show m.at_ < c.wear.length; omega⟩
end
end Go.Proofs.YtpkkejdjhnmjiaaGreat
namespace Go.Proofs.YtpkkejdjhnmjiaaGreat
open Go.RowKit Go.Maps Bm
theorem lawI : Keyed Tryz.prog 3 := int_keyed Tryz.underlying3
theorem zeroU (w : World) : (zeroValue 36).run Tryz.prog w = .ok (.int .u32 0) w := by kernel_rfl
theorem i_wf (i : Nat) (h : i < 64) : (Lit.int .i64 (i : Int)).wf = true := by
  simp [Lit.wf, IntKind.signed, IntKind.bits, IntKind.min, IntKind.max]; omega
theorem keyI (i : Nat) (h : i < 64) : keyOf Tryz.prog 3 (.int .i64 (i : Int)) = some (.int .i64 (i : Int)) := keyOf_int_mk Tryz.underlying3 (i_wf i h)
theorem isKeyI (i : Int) : WideAt.IsKeyLit (.int .i64 i) := by simp [WideAt.IsKeyLit]
def zI (b : Bool) : Int := if b = true then 1 else 0
theorem room_of_range : ∀ (n : Nat) (l : List Nat), l.Nodup → (∀ x ∈ l, x < n) → l.length ≤ n
  | 0, l, _, h => by
    cases l with
    | nil => simp
    | cons x r => exact absurd (h x (by simp)) (by omega)
  | n + 1, l, hn, h => by
    have a := room_of_range n (l.erase n) (hn.erase n) (fun x hx => by
      have h1 := (hn.mem_erase_iff).1 hx
      have := h x h1.2
      omega)
    by_cases hm : n ∈ l
    · have b := List.length_erase_of_mem hm
      omega
    · rw [List.erase_of_not_mem hm] at a
      omega
def InRange (D : DataW Unit) : Prop := ∀ es, D = .map es → ∀ p ∈ es, ∃ z : Nat, z < 64 ∧ p.1 = .int .i64 (z : Int)
def keyNat : Lit → Nat
  | .int _ z => z.toNat
  | _ => 0
theorem size_range {D : DataW Unit} (t : Tidy D) (h : InRange D) : Maps.size D ≤ 64 := by
  obtain ⟨es, rfl, hp⟩ := t
  have h := h es rfl
  rw [size_eq]
  have e : es.length = (es.map fun p => keyNat p.1).length := by simp
  rw [e]
  refine room_of_range 64 _ ?_ ?_
  · rw [List.Nodup, List.pairwise_map]
    refine hp.imp_of_mem ?_
    intro a b ha hb hne
    obtain ⟨x, _, hx⟩ := h a ha
    obtain ⟨y, _, hy⟩ := h b hb
    rw [hx, hy] at hne
    rw [hx, hy]
    intro e
    apply hne
    simp only [keyNat, Int.toNat_natCast] at e
    rw [e]
  · intro x hx
    obtain ⟨p, hp, rfl⟩ := List.mem_map.1 hx
    obtain ⟨z, hz, e⟩ := h p hp
    rw [e]
    simpa [keyNat] using hz
theorem InRange.put {D : DataW Unit} (h : InRange D) (i : Nat) (hi : i < 64) (d : DataW Unit) : InRange (D.put (.int .i64 (i : Int)) d) := by
  intro es e p hp
  cases D with
  | map es0 =>
    simp only [DataW.put, DataW.map.injEq] at e
    subst e
    rcases ChangeMaps.mem_insert_iff.1 hp with rfl | hp
    · exact ⟨i, hi, rfl⟩
    · exact h es0 rfl p ((List.mem_filter.1 hp).1)
  | _ => simp only [DataW.put] at e; exact h es e p hp
theorem InRange.del {D : DataW Unit} (h : InRange D) (i : Int) : InRange (D.del (.int .i64 i)) := by
  intro es e p hp
  cases D with
  | map es0 =>
    simp only [DataW.del, DataW.map.injEq] at e
    subst e
    exact h es0 rfl p ((List.mem_filter.1 hp).1)
  | _ => simp only [DataW.del] at e; exact h es e p hp
theorem ownsMap_tight {w : World} {b n : Nat} {D : DataW Unit} (h : w.ownsMap Tryz.prog 3 (plainElem Tryz.prog 36) b n D) (hs : Maps.size D ≤ 64) : w.ownsMap Tryz.prog 3 (plainElem Tryz.prog 36) b 64 D := by
  obtain ⟨es, clock, hb, F, _, rfl⟩ := h
  refine ⟨es, clock, hb, F, ?_, rfl⟩
  simpa [Maps.size, length_sorted] using hs
structure LocksAt (w : World) (b : Nat) (l : List Bool) : Prop where
  ex : ∃ D : DataW Unit, w.ownsMap Tryz.prog 3 (plainElem Tryz.prog 36) b 64 D ∧ InRange D ∧ ∀ i : Nat, i < 64 → D.atKey (.int .i64 (i : Int)) (.lit (.int .u32 0)) = .lit (.int .u32 (zI (lk l i)))
theorem LocksAt.lt {w : World} {b : Nat} {l : List Bool} (h : LocksAt w b l) : b < w.heap.size := by
  obtain ⟨D, h1, _⟩ := h
  exact h1.lt
theorem LocksAt.of_block {w w' : World} {b : Nat} {l : List Bool} (h : LocksAt w b l) (e : w'.heap[b]? = w.heap[b]?) : LocksAt w' b l := by
  obtain ⟨D, ⟨es, clock, hb, r⟩, h2⟩ := h
  exact ⟨D, ⟨es, clock, e.trans hb, r⟩, h2⟩
theorem LocksAt.kept {w w' : World} {b : Nat} {l : List Bool} (h : LocksAt w b l) {S : Nat → Prop} (k : Turned S w w') (hS : ¬ S b) : LocksAt w' b l := h.of_block (k.block b h.lt hS)
theorem LocksAt.drewN {w : World} {b : Nat} {l : List Bool} (h : LocksAt w b l) (n : Nat) : LocksAt (w.drewN n) b l := h.of_block rfl
theorem LocksAt.news (w : World) : LocksAt (w.alloc (.map #[] 0)) w.heap.size noLocks := by
  refine ⟨.map [], (World.ownsMap_made w _ _ _).mono (Nat.zero_le _), ?_, ?_⟩
  · intro es e p hp
    simp only [DataW.map.injEq] at e
    subst e
    simp at hp
  · intro i _
    rw [lk_none]
    rfl
theorem LocksAt.ne_cells {w : World} {b g : Nat} {l : List Bool} {t : TypeId} {cs : List Value} (h : LocksAt w b l) (hg : At w g t cs) : g ≠ b := by
  rintro rfl
  obtain ⟨D, ⟨es, clock, hb, _⟩, _⟩ := h
  unfold At at hg
  rw [hb] at hg
  cases hg
theorem LocksAt.look {w : World} {b : Nat} {l : List Bool} (h : LocksAt w b l) (i : Nat) (hi : i < 64) :
    (Instr.lookup 94 (.map (some b)) (.int .i64 (i : Int)) false).run Tryz.prog w = .ok (.int .u32 (zI (lk l i))) w := by
  obtain ⟨D, h1, _, h3⟩ := h
  obtain ⟨c, hrun, hat, _⟩ := h1.lookup_int lawI Tryz.underlying94 Tryz.underlying36 (zeroU w) (keyI i hi)
  rw [h3 i hi] at hat
  simp only [DataW.lit.injEq, Lit.int.injEq, true_and] at hat
  rw [hrun, hat]
theorem LocksAt.store {w : World} {b : Nat} {l : List Bool} (h : LocksAt w b l) (i : Nat) (hi : i < 64) (hl : l.length = 64) :
    ∃ w', (Instr.mapUpdate 94 (.map (some b)) (.int .i64 (i : Int)) (.int .u32 1)).run Tryz.prog w = .ok () w' ∧ LocksAt w' b (l.set i true) ∧ Turned (Just b) w w' := by
  obtain ⟨D, h1, h2, h3⟩ := h
  obtain ⟨w', hrun, ho, ht⟩ := h1.store lawI Tryz.underlying94 (by unfold maxLen; omega) (keyI i hi) (plainElem_int (H := Unit) Tryz.underlying36 (q := .u32) (a := 1) (by decide))
  have hin := h2.put i hi (.lit (.int .u32 1))
  refine ⟨w', hrun, ⟨_, ownsMap_tight ho (size_range ((h1.tidy lawI).put (isKeyI _) _) hin), hin, ?_⟩, ?_⟩
  · intro j hj
    by_cases e : i = j
    · subst e
      rw [atKey_put_same h1.isMap (isKeyI _), lk_set_self _ _ _ (by omega)]
      rfl
    · rw [atKey_put_other (by intro e'; simp only [Lit.int.injEq, true_and] at e'; omega), lk_set_other _ _ _ _ e]
      exact h3 j hj
  · exact (Turned.refl _ _).grown ht.grown (fun k hk _ => by simp only [Option.some.injEq] at hk; exact hk.symm)
theorem LocksAt.drop {w : World} {b : Nat} {l : List Bool} (h : LocksAt w b l) (i : Nat) (hi : i < 64) (hl : l.length = 64) (ty : TypeId) :
    ∃ w', (Builtin.delete_ #[94, 3] ty #[.map (some b), .int .i64 (i : Int)]).run Tryz.prog w = .ok (.tuple #[]) w' ∧ LocksAt w' b (l.set i false) ∧ Turned (Just b) w w' := by
  obtain ⟨D, h1, h2, h3⟩ := h
  obtain ⟨w', hrun, ho, ht⟩ := h1.drop lawI Tryz.underlying94 (keyI i hi) ty
  refine ⟨w', hrun, ⟨_, ho, h2.del _, ?_⟩, ?_⟩
  · intro j hj
    by_cases e : i = j
    · subst e
      rw [atKey_del_same, lk_set_self _ _ _ (by omega)]
      rfl
    · rw [atKey_del_other (by intro e'; simp only [Lit.int.injEq, true_and] at e'; omega), lk_set_other _ _ _ _ e]
      exact h3 j hj
  · exact (Turned.refl _ _).grown ht.grown (fun k hk _ => by simp only [Option.some.injEq] at hk; exact hk.symm)
end Go.Proofs.YtpkkejdjhnmjiaaGreat
namespace Go.Proofs.YtpkkejdjhnmjiaaGreat
open Go.RowKit Bm
structure Fh where
  c : Hd
  f : Nat
  l : Nat
  j1 : Nat
  j2 : Nat
  j3 : Nat
def Fh.own (h : Fh) (i : Nat) : Prop := h.c.own i ∨ i = h.f ∨ i = h.l
def Fh.vars (h : Fh) (i : Nat) : Prop := i = h.j1 ∨ i = h.j2 ∨ i = h.j3
def pendV (n : Int) : Value :=
  if n = 64 then .func (.func 105) #[] #[] else if n = 32 then .func (.func 106) #[] #[]
  else if n = 96 then .func (.func 107) #[] #[] else .nilFunc
def actV (h : Fh) (n : Int) : Value :=
  if n = 64 then .func (.func 113) #[] #[.pointer (some ⟨h.j1, 0, none⟩), .pointer (some ⟨h.j2, 0, none⟩), .pointer (some ⟨h.j3, 0, none⟩)]
  else if n = 32 then .func (.func 115) #[] #[.pointer (some ⟨h.j1, 0, none⟩), .pointer (some ⟨h.j2, 0, none⟩)] else .nilFunc
def flCells (h : Fh) (m : FlashM) : List Value :=
  [.pointer (some ⟨h.c.p, 0, none⟩), .int .i64 m.mode, pendV m.wait, .int .u32 (U m.errors), .map (some h.l), .int .i64 m.left, actV h m.job]
structure JobAt (w : World) (h : Fh) (m : FlashM) : Prop where
  prog : m.job = 64 → At w h.j1 54 [.pointer (some ⟨h.f, 0, none⟩)] ∧ At w h.j2 3 [.int .i64 m.at_] ∧ At w h.j3 36 [.int .u32 (U m.v)] ∧ ∀ i, h.c.own i → ¬ h.vars i
  erase : m.job = 32 → At w h.j1 54 [.pointer (some ⟨h.f, 0, none⟩)] ∧ At w h.j2 3 [.int .i64 m.at_] ∧ ∀ i, h.c.own i → i ≠ h.j1 ∧ i ≠ h.j2
structure FlashAt (w : World) (h : Fh) (m : FlashM) : Prop where
  chip : ChipAt w h.c m.chip
  own : At w h.f 98 (flCells h m)
  locks : LocksAt w h.l m.locks
  job : JobAt w h m
section
variable {w w' : World} {h : Fh} {m : FlashM}
theorem FlashAt.fp (x : FlashAt w h m) : h.f ≠ h.c.p := x.own.ne x.chip.own (by decide)
theorem FlashAt.fbw (x : FlashAt w h m) : h.f ≠ h.c.bw := x.own.ne x.chip.words (by decide)
theorem FlashAt.fbe (x : FlashAt w h m) : h.f ≠ h.c.be := x.own.ne x.chip.wear (by decide)
theorem FlashAt.fc (x : FlashAt w h m) : ¬ h.c.own h.f := by
  rintro (e | e | e)
  · exact x.fp e
  · exact x.fbw e
  · exact x.fbe e
theorem FlashAt.lc (x : FlashAt w h m) : ¬ h.c.own h.l := by
  rintro (e | e | e)
  · exact x.locks.ne_cells x.chip.own e.symm
  · exact x.locks.ne_cells x.chip.words e.symm
  · exact x.locks.ne_cells x.chip.wear e.symm
theorem FlashAt.fl (x : FlashAt w h m) : h.f ≠ h.l := x.locks.ne_cells x.own
theorem JobAt.kept {S : Nat → Prop} (x : JobAt w h m) (k : Turned S w w') (hS : ∀ i, h.vars i → i < w.heap.size → ¬ S i) : JobAt w' h m :=
  ⟨fun j => by
    obtain ⟨a, b, c, d⟩ := x.prog j
    exact ⟨a.kept k (hS _ (.inl rfl) a.lt), b.kept k (hS _ (.inr (.inl rfl)) b.lt), c.kept k (hS _ (.inr (.inr rfl)) c.lt), d⟩,
   fun j => by
    obtain ⟨a, b, d⟩ := x.erase j
    exact ⟨a.kept k (hS _ (.inl rfl) a.lt), b.kept k (hS _ (.inr (.inl rfl)) b.lt), d⟩⟩
theorem FlashAt.kept {S : Nat → Prop} (x : FlashAt w h m) (k : Turned S w w') (hS : ∀ i, i < w.heap.size → ¬ S i) : FlashAt w' h m :=
  ⟨⟨x.chip.own.kept k (hS _ x.chip.own.lt), x.chip.words.kept k (hS _ x.chip.words.lt), x.chip.wear.kept k (hS _ x.chip.wear.lt), x.chip.room, x.chip.cap⟩,
   x.own.kept k (hS _ x.own.lt), x.locks.kept k (hS _ x.locks.lt), x.job.kept k fun i _ hi => hS i hi⟩
theorem FlashAt.below {B : Nat} (x : FlashAt w h m) (k : Below B w w') (hB : w.heap.size ≤ B) : FlashAt w' h m := x.kept (Turned.of_below k hB NoBlock) (fun _ _ h => h)
theorem FlashAt.drewN (x : FlashAt w h m) (n : Nat) : FlashAt (w.drewN n) h m := ⟨x.chip.drewN n, x.own, x.locks.drewN n, ⟨x.job.prog, x.job.erase⟩⟩
end
theorem made_any (h : Fh) (m : FlashM) (w : World) (x : FlashAt w h m) :
    Calls Tryz.prog 46 #[.pointer (some ⟨h.f, 0, none⟩)] w fun e w' => e = .returned (.bool true) ∧ w' = w := by
  have g := x.own.cell 0
  simp only [flCells, List.getElem?_cons_zero] at g
  clear x
  go_enter Tryz.func46, Tryz.ntmps46
  go_wp2
  go_ret
  exact ⟨rfl, rfl⟩
theorem busy_any (h : Fh) (m : FlashM) (w : World) (x : FlashAt w h m) :
    Calls Tryz.prog 91 #[.pointer (some ⟨h.f, 0, none⟩)] w fun e w' => e = .returned (.bool (decide (0 < m.left))) ∧ w' = w := by
  have g := x.own.cell 5
  simp only [flCells, List.getElem?_cons_zero, List.getElem?_cons_succ] at g
  clear x
  go_enter Tryz.func91, Tryz.ntmps91
  go_wp2
  go_ret
  exact ⟨rfl, rfl⟩
theorem busy_yes (h : Fh) (m : FlashM) (w : World) (x : FlashAt w h m) (hl : 0 < m.left) :
    Calls Tryz.prog 91 #[.pointer (some ⟨h.f, 0, none⟩)] w fun e w' => e = .returned (.bool true) ∧ w' = w := by
  have := busy_any h m w x
  rwa [show decide (0 < m.left) = true by simpa using hl] at this
theorem busy_no (h : Fh) (m : FlashM) (w : World) (x : FlashAt w h m) (hl : m.left = 0) :
    Calls Tryz.prog 91 #[.pointer (some ⟨h.f, 0, none⟩)] w fun e w' => e = .returned (.bool false) ∧ w' = w := by
  have := busy_any h m w x
  rwa [show decide (0 < m.left) = false by rw [hl]; rfl] at this
theorem mRead_err (c : ChipM) (a : Int) : (mRead c a).2 = mRefuse c a c.ws.length := by
  unfold mRead
  split
  · rename_i h; exact h.symm
  · rfl
theorem frefuse_any (h : Fh) (m : FlashM) (k : Nat) (a : Int) (w : World) (x : FlashAt w h m) (ok : FlashOk k m) :
    Calls Tryz.prog 90 #[.pointer (some ⟨h.f, 0, none⟩), .int .i64 a] w fun e w' => e = .returned (.int .i64 (fRefuse m a)) ∧ w' = w := by
  have g := x.own.cell 0
  simp only [flCells, List.getElem?_cons_zero] at g
  have hr := read_any h.c m.chip k a w x.chip ok.chip
  rw [mRead_err] at hr
  have HR := Lib.hid hr
  have X := Lib.hid x
  clear hr x ok
  go_enter Tryz.func90, Tryz.ntmps90
  go_wp2_with (first
    | (go_at_call 46; (with_reducible refine (made_any h m _ X.out).mono ?_); rintro e w' ⟨rfl, rfl⟩)
    | (go_at_call 93; (with_reducible refine HR.out.mono ?_); rintro e w' ⟨rfl, rfl⟩))
  go_ret
  exact ⟨rfl, rfl⟩
theorem U_or128 (x : BitVec 32) : bits .or .u32 (U x) 128 = U (x ||| 128#32) := U_or x 128#32
theorem U_or18 (x : BitVec 32) : bits .or .u32 (U x) 18 = U (x ||| 18#32) := U_or x 18#32
theorem U_or34 (x : BitVec 32) : bits .or .u32 (U x) 34 = U (x ||| 34#32) := U_or x 34#32
theorem U_or48 (x : BitVec 32) : bits .or .u32 (U x) 48 = U (x ||| 48#32) := U_or x 48#32
theorem U_or32 (x : BitVec 32) : bits .or .u32 (U x) 32 = U (x ||| 32#32) := U_or x 32#32
theorem U_and255 (x : BitVec 32) : bits .and .u32 (U x) 255 = U (x &&& 255#32) := U_and x 255#32
theorem U_and128 (x : BitVec 32) : bits .and .u32 (U x) 128 = U (x &&& 128#32) := U_and x 128#32
attribute [go_sem] U_or128 U_or18 U_or34 U_or48 U_or32 U_and255 U_and128
theorem status_any (h : Fh) (m : FlashM) (k : Nat) (w : World) (x : FlashAt w h m) (ok : FlashOk k m) :
    Calls Tryz.prog 96 #[.pointer (some ⟨h.f, 0, none⟩)] w fun e w' => e = .returned (.int .u32 (U (fStatus m))) ∧ w' = w := by
  have g := x.own.cell 3
  simp only [flCells, List.getElem?_cons_zero, List.getElem?_cons_succ] at g
  by_cases j : m.job = 0
  · have hl := (ok.idle j).2.2
    have e : fStatus m = m.errors ||| 128#32 := by unfold fStatus; rw [if_pos j]
    have X := Lib.hid x
    have HL := Lib.hid hl
    have E := Lib.hid e
    clear x ok j hl e
    go_enter Tryz.func96, Tryz.ntmps96
    go_wp2_with (first
      | (go_at_call 46; (with_reducible refine (made_any h m _ X.out).mono ?_); rintro e w' ⟨rfl, rfl⟩)
      | (go_at_call 91; (with_reducible refine (busy_no h m _ X.out HL.out).mono ?_); rintro e w' ⟨rfl, rfl⟩))
    go_ret
    exact ⟨ret_u (by rw [E.out]), rfl⟩
  · have hl := (ok.busy j).2.2.1
    have e : fStatus m = m.errors := by unfold fStatus; rw [if_neg j]
    have X := Lib.hid x
    have HL := Lib.hid hl
    have E := Lib.hid e
    clear x ok j hl e
    go_enter Tryz.func96, Tryz.ntmps96
    go_wp2_with (first
      | (go_at_call 46; (with_reducible refine (made_any h m _ X.out).mono ?_); rintro e w' ⟨rfl, rfl⟩)
      | (go_at_call 91; (with_reducible refine (busy_yes h m _ X.out HL.out).mono ?_); rintro e w' ⟨rfl, rfl⟩))
    go_ret
    exact ⟨ret_u (by rw [E.out]), rfl⟩
theorem block_any (i : Nat) (w : World) (hi : i ≤ 1000000) :
    Calls Tryz.prog 109 #[.int .i64 (i : Int)] w fun e w' => e = .returned (.int .i64 ((i / 64 : Nat) : Int)) ∧ w' = w := by
  have h0 : (0 : Int) ≤ (i : Int) := by omega
  have h1 : (i : Int) ≤ 1000000 := by omega
  go_enter Tryz.func109, Tryz.ntmps109
  go_wp2
  go_ret
  exact ⟨ret_i (by omega), rfl⟩
theorem ofNat_small (n : Nat) (h : n ≤ 64) : U (BitVec.ofNat 32 n) = (n : Int) := U_ofNat n (by omega)
theorem query_any (h : Fh) (m : FlashM) (k : Nat) (i : Nat) (w : World) (x : FlashAt w h m) (ok : FlashOk k m) :
    Calls Tryz.prog 95 #[.pointer (some ⟨h.f, 0, none⟩), .int .i64 (i : Int)] w fun e w' => e = .returned (.int .u32 (U (fQuery m i))) ∧ w' = w := by
  have g := x.own.cell 0
  simp only [flCells, List.getElem?_cons_zero] at g
  have hb := blocks_any h.c m.chip w x.chip
  have HB := Lib.hid hb
  have k2 := ok.chip.k2
  have kw := ok.chip.wears
  have kl : m.chip.wear.length ≤ 64 := by omega
  have e := ofNat_small _ kl
  have E := Lib.hid e
  have kl' : (m.chip.wear.length : Int) ≤ 64 := by omega
  clear hb x ok e k2 kw kl
  unfold fQuery
  by_cases h1 : i = 16
  · subst h1
    go_enter Tryz.func95, Tryz.ntmps95
    go_wp2
    go_ret
    exact ⟨rfl, rfl⟩
  by_cases h2 : i = 17
  · subst h2
    go_enter Tryz.func95, Tryz.ntmps95
    go_wp2
    go_ret
    exact ⟨rfl, rfl⟩
  by_cases h3 : i = 18
  · subst h3
    go_enter Tryz.func95, Tryz.ntmps95
    go_wp2
    go_ret
    exact ⟨rfl, rfl⟩
  by_cases h4 : i = 44
  · subst h4
    go_enter Tryz.func95, Tryz.ntmps95
    go_wp2_with (go_at_call 30; (with_reducible refine HB.out.mono ?_); rintro e w' ⟨rfl, rfl⟩)
    go_ret
    exact ⟨ret_u E.out.symm, rfl⟩
  · have q1 : ((i : Int) == 16) = false := by rw [beq_eq_false_iff_ne]; omega
    have q2 : ((i : Int) == 17) = false := by rw [beq_eq_false_iff_ne]; omega
    have q3 : ((i : Int) == 18) = false := by rw [beq_eq_false_iff_ne]; omega
    have q4 : ((i : Int) == 44) = false := by rw [beq_eq_false_iff_ne]; omega
    rw [if_neg h1, if_neg h2, if_neg h3, if_neg h4]
    clear h1 h2 h3 h4
    go_enter Tryz.func95, Tryz.ntmps95
    go_wp2
    go_ret
    exact ⟨rfl, rfl⟩
end Go.Proofs.YtpkkejdjhnmjiaaGreat
namespace Go.Proofs.YtpkkejdjhnmjiaaGreat
open Go.RowKit Bm
section
variable {w : World} {h : Fh} {m : FlashM}
theorem JobAt.far (x : JobAt w h m) {cs : List Value} {p : Addr} (hf : At w h.f 98 cs) (hp : p.block = h.f) (u : Value) : JobAt (w.setCell p u) h m :=
  ⟨fun j => by
    obtain ⟨a, b, c, d⟩ := x.prog j
    exact ⟨a.far (by rw [hp]; exact a.ne hf (by decide)) u, b.far (by rw [hp]; exact b.ne hf (by decide)) u, c.far (by rw [hp]; exact c.ne hf (by decide)) u, d⟩,
   fun j => by
    obtain ⟨a, b, d⟩ := x.erase j
    exact ⟨a.far (by rw [hp]; exact a.ne hf (by decide)) u, b.far (by rw [hp]; exact b.ne hf (by decide)) u, d⟩⟩
theorem FlashAt.putF (x : FlashAt w h m) (i : Nat) (u : Value) (m' : FlashM) (e : (flCells h m).set i u = flCells h m') (ec : m'.chip = m.chip) (el : m'.locks = m.locks) (ej : JobAt w h m → JobAt w h m') :
    FlashAt (w.setCell ⟨h.f, i, none⟩ u) h m' := by
  have n1 := x.fp
  have n2 := x.fbw
  have n3 := x.fbe
  have n4 := x.fl
  refine ⟨?_, (x.own.put i u).as e, ?_, (ej x.job).far x.own rfl u⟩
  · rw [ec]
    exact ⟨x.chip.own.far (p := ⟨h.f, i, none⟩) (Ne.symm n1) u, x.chip.words.far (p := ⟨h.f, i, none⟩) (Ne.symm n2) u, x.chip.wear.far (p := ⟨h.f, i, none⟩) (Ne.symm n3) u, x.chip.room, x.chip.cap⟩
  · rw [el]
    exact x.locks.of_block (Below.heap_setCell w ⟨h.f, i, none⟩ u h.l (Ne.symm n4))
theorem FlashAt.putMode (x : FlashAt w h m) (n : Int) : FlashAt (w.setCell ⟨h.f, 1, none⟩ (.int .i64 n)) h { m with mode := n } := x.putF 1 _ _ rfl rfl rfl (fun j => ⟨j.prog, j.erase⟩)
theorem FlashAt.putWait (x : FlashAt w h m) (n : Int) : FlashAt (w.setCell ⟨h.f, 2, none⟩ (pendV n)) h { m with wait := n } := x.putF 2 _ _ rfl rfl rfl (fun j => ⟨j.prog, j.erase⟩)
theorem FlashAt.putErrors (x : FlashAt w h m) (b : BitVec 32) : FlashAt (w.setCell ⟨h.f, 3, none⟩ (.int .u32 (U b))) h { m with errors := b } := x.putF 3 _ _ rfl rfl rfl (fun j => ⟨j.prog, j.erase⟩)
theorem FlashAt.putLeft (x : FlashAt w h m) (n : Int) : FlashAt (w.setCell ⟨h.f, 5, none⟩ (.int .i64 n)) h { m with left := n } := x.putF 5 _ _ rfl rfl rfl (fun j => ⟨j.prog, j.erase⟩)
end
def Ran (h : Fh) (m' : FlashM) (w : World) (e : Ending) (w' : World) : Prop :=
  e = .returned (.tuple #[]) ∧ ∃ j1 j2 j3, FlashAt w' { h with j1 := j1, j2 := j2, j3 := j3 } m' ∧ Turned h.own w w'
theorem turned_f {h : Fh} {a w : World} (t : Turned h.own a w) (i : Nat) (u : Value) : Turned h.own a (w.setCell ⟨h.f, i, none⟩ u) := t.setCell (p := ⟨h.f, i, none⟩) (fun _ => .inr (.inl rfl)) u
theorem U_beq_false {x y : BitVec 32} (h : ¬ x = y) : (U x == U y) = false := by rw [U_beq]; simpa using h
theorem FlashM.mode_one {m : FlashM} (h : m.mode = 1) : ({ m with mode := 1 } : FlashM) = m := by
  cases m
  simp only at h
  subst h
  rfl
theorem ran_one {h : Fh} {m m' : FlashM} {w w' : World} (x : FlashAt w' h m') (t : Turned h.own w w') (e : m' = m) : Ran h m w (.returned (.tuple #[])) w' :=
  ⟨rfl, h.j1, h.j2, h.j3, e ▸ x, t⟩
set_option maxRecDepth 100000 in
set_option maxHeartbeats 1000000 in
theorem command_any (h : Fh) (m : FlashM) (low : BitVec 32) (w : World) (x : FlashAt w h m) (hm : m.mode = 1) :
    Calls Tryz.prog 92 #[.pointer (some ⟨h.f, 0, none⟩), .int .u32 (U low)] w (Ran h (fCommand m low) w) := by
  have g1 := x.own.cell 1
  have g2 := x.own.cell 2
  have g3 := x.own.cell 3
  simp only [flCells, List.getElem?_cons_zero, List.getElem?_cons_succ] at g1 g2 g3
  have f1 := x.own.frozen 1
  have f2 := x.own.frozen 2
  have f3 := x.own.frozen 3
  have X := Lib.hid x
  have M := Lib.hid hm
  clear x hm
  by_cases h255 : low = 255#32
  · subst h255
    have e : fCommand m 255#32 = { m with mode := 0 } := by
      unfold fCommand
      exact if_pos rfl
    rw [e]
    clear e
    show Calls _ _ #[_, .int .u32 255] _ _
    go_enter Tryz.func92, Tryz.ntmps92
    go_wp2
    go_end0
    exact ran_one (X.out.putMode 0) (turned_f (Turned.refl _ _) _ _) (rfl)
  by_cases h112 : low = 112#32
  · subst h112
    have e : fCommand m 112#32 = { m with mode := 1 } := by
      unfold fCommand
      rw [if_neg (by decide)]
      exact if_pos rfl
    rw [e]
    clear e
    show Calls _ _ #[_, .int .u32 112] _ _
    go_enter Tryz.func92, Tryz.ntmps92
    go_wp2
    go_end0
    exact ran_one (X.out.putMode 1) (turned_f (Turned.refl _ _) _ _) (rfl)
  by_cases h144 : low = 144#32
  · subst h144
    have e : fCommand m 144#32 = { m with mode := 2 } := by
      unfold fCommand
      rw [if_neg (by decide)]
      rw [if_neg (by decide)]
      exact if_pos rfl
    rw [e]
    clear e
    show Calls _ _ #[_, .int .u32 144] _ _
    go_enter Tryz.func92, Tryz.ntmps92
    go_wp2
    go_end0
    exact ran_one (X.out.putMode 2) (turned_f (Turned.refl _ _) _ _) (rfl)
  by_cases h152 : low = 152#32
  · subst h152
    have e : fCommand m 152#32 = { m with mode := 3 } := by
      unfold fCommand
      rw [if_neg (by decide)]
      rw [if_neg (by decide)]
      rw [if_neg (by decide)]
      exact if_pos rfl
    rw [e]
    clear e
    show Calls _ _ #[_, .int .u32 152] _ _
    go_enter Tryz.func92, Tryz.ntmps92
    go_wp2
    go_end0
    exact ran_one (X.out.putMode 3) (turned_f (Turned.refl _ _) _ _) (rfl)
  by_cases h80 : low = 80#32
  · subst h80
    have e : fCommand m 80#32 = { m with mode := 1, errors := 0#32 } := by
      unfold fCommand
      rw [if_neg (by decide)]
      rw [if_neg (by decide)]
      rw [if_neg (by decide)]
      rw [if_neg (by decide)]
      exact if_pos rfl
    rw [e]
    clear e
    show Calls _ _ #[_, .int .u32 80] _ _
    go_enter Tryz.func92, Tryz.ntmps92
    go_wp2
    go_end0
    exact ran_one (X.out.putErrors 0#32) (turned_f (Turned.refl _ _) _ _) (by have := M.out; cases m; simp only at this; subst this; rfl)
  by_cases h64 : low = 64#32
  · subst h64
    have e : fCommand m 64#32 = { m with mode := 1, wait := 64 } := by
      unfold fCommand
      rw [if_neg (by decide)]
      rw [if_neg (by decide)]
      rw [if_neg (by decide)]
      rw [if_neg (by decide)]
      rw [if_neg (by decide)]
      exact if_pos rfl
    rw [e]
    clear e
    show Calls _ _ #[_, .int .u32 64] _ _
    go_enter Tryz.func92, Tryz.ntmps92
    go_wp2
    go_end0
    exact ran_one (X.out.putWait 64) (turned_f (Turned.refl _ _) _ _) (by have := M.out; cases m; simp only at this; subst this; rfl)
  by_cases h32 : low = 32#32
  · subst h32
    have e : fCommand m 32#32 = { m with mode := 1, wait := 32 } := by
      unfold fCommand
      rw [if_neg (by decide)]
      rw [if_neg (by decide)]
      rw [if_neg (by decide)]
      rw [if_neg (by decide)]
      rw [if_neg (by decide)]
      rw [if_neg (by decide)]
      exact if_pos rfl
    rw [e]
    clear e
    show Calls _ _ #[_, .int .u32 32] _ _
    go_enter Tryz.func92, Tryz.ntmps92
    go_wp2
    go_end0
    exact ran_one (X.out.putWait 32) (turned_f (Turned.refl _ _) _ _) (by have := M.out; cases m; simp only at this; subst this; rfl)
  by_cases h96 : low = 96#32
  · subst h96
    have e : fCommand m 96#32 = { m with mode := 1, wait := 96 } := by
      unfold fCommand
      rw [if_neg (by decide)]
      rw [if_neg (by decide)]
      rw [if_neg (by decide)]
      rw [if_neg (by decide)]
      rw [if_neg (by decide)]
      rw [if_neg (by decide)]
      rw [if_neg (by decide)]
      exact if_pos rfl
    rw [e]
    clear e
    show Calls _ _ #[_, .int .u32 96] _ _
    go_enter Tryz.func92, Tryz.ntmps92
    go_wp2
    go_end0
    exact ran_one (X.out.putWait 96) (turned_f (Turned.refl _ _) _ _) (by have := M.out; cases m; simp only at this; subst this; rfl)
  have q255 : (U low == 255) = false := U_beq_false (y := 255#32) h255
  have q112 : (U low == 112) = false := U_beq_false (y := 112#32) h112
  have q144 : (U low == 144) = false := U_beq_false (y := 144#32) h144
  have q152 : (U low == 152) = false := U_beq_false (y := 152#32) h152
  have q80 : (U low == 80) = false := U_beq_false (y := 80#32) h80
  have q64 : (U low == 64) = false := U_beq_false (y := 64#32) h64
  have q32 : (U low == 32) = false := U_beq_false (y := 32#32) h32
  have q96 : (U low == 96) = false := U_beq_false (y := 96#32) h96
  have e : fCommand m low = fWith { m with mode := 1 } 48#32 := by
    unfold fCommand
    rw [if_neg h255, if_neg h112, if_neg h144, if_neg h152, if_neg h80, if_neg h64, if_neg h32, if_neg h96]
  rw [e, FlashM.mode_one M.out]
  clear e h255 h112 h144 h152 h80 h64 h32 h96
  go_enter Tryz.func92, Tryz.ntmps92
  go_wp2
  go_end0
  exact ran_one (X.out.putErrors _) (turned_f (Turned.refl _ _) _ _) rfl
end Go.Proofs.YtpkkejdjhnmjiaaGreat
namespace Go.Proofs.YtpkkejdjhnmjiaaGreat
open Go.RowKit Bm
theorem block_is (i b : Nat) (w : World) (hb : b = i / 64) (hi : i ≤ 1000000) :
    Calls Tryz.prog 109 #[.int .i64 (i : Int)] w fun e w' => e = .returned (.int .i64 (b : Int)) ∧ w' = w := by
  subst hb
  exact block_any i w hi
theorem zI_lk (b : Bool) : zI b = U (if b = true then 1#32 else 0#32) := by cases b <;> rfl
set_option maxRecDepth 100000 in
set_option maxHeartbeats 1000000 in
theorem id_any (h : Fh) (m : FlashM) (i : Nat) (w : World) (x : FlashAt w h m) (hi : i < 4096) :
    Calls Tryz.prog 94 #[.pointer (some ⟨h.f, 0, none⟩), .int .i64 (i : Int)] w fun e w' => e = .returned (.int .u32 (U (fId m i))) ∧ ∃ n, w' = w.drewN n := by
  have g4 := x.own.cell 4
  simp only [flCells, List.getElem?_cons_zero, List.getElem?_cons_succ] at g4
  obtain ⟨b, hb⟩ : ∃ b, b = i / 64 := ⟨_, rfl⟩
  have hrun := fun n => (x.locks.drewN n).look b (by omega)
  have h0 : (0 : Int) ≤ (i : Int) := by omega
  have h1 : (i : Int) ≤ 4096 := by omega
  unfold fId
  rw [← hb]
  have HB := Lib.hid hb
  clear hb
  have X := Lib.hid x
  clear x
  by_cases c0 : i % 64 = 0
  · have q0 : ((i : Int) % 64 == 0) = true := by rw [beq_iff_eq]; omega
    rw [if_pos c0]
    clear c0
    go_enter Tryz.func94, Tryz.ntmps94
    go_wp2
    go_ret
    exact ⟨rfl, 0, rfl⟩
  have q0 : ((i : Int) % 64 == 0) = false := by rw [beq_eq_false_iff_ne]; omega
  by_cases c1 : i % 64 = 1
  · have q1 : ((i : Int) % 64 == 1) = true := by rw [beq_iff_eq]; omega
    rw [if_neg c0, if_pos c1]
    clear c0 c1
    go_enter Tryz.func94, Tryz.ntmps94
    go_wp2
    go_ret
    exact ⟨rfl, 0, rfl⟩
  have q1 : ((i : Int) % 64 == 1) = false := by rw [beq_eq_false_iff_ne]; omega
  by_cases c2 : i % 64 = 2
  · have q2 : ((i : Int) % 64 == 2) = true := by rw [beq_iff_eq]; omega
    rw [if_neg c0, if_neg c1, if_pos c2]
    clear c0 c1 c2
    simp only [zI_lk] at hrun
    generalize (if lk m.locks b = true then 1#32 else 0#32) = z at hrun ⊢
    go_enter Tryz.func94, Tryz.ntmps94
    go_wp2
    go_quiet ((go_at_call 109; exact Calls.quiet_of_same (block_is _ _ _ HB.out (by omega))))
    go_wp2
    go_ret
    exact ⟨rfl, _, rfl⟩
  have q2 : ((i : Int) % 64 == 2) = false := by rw [beq_eq_false_iff_ne]; omega
  rw [if_neg c0, if_neg c1, if_neg c2]
  clear c0 c1 c2
  go_enter Tryz.func94, Tryz.ntmps94
  go_wp2
  go_ret
  exact ⟨rfl, 0, rfl⟩
theorem ChipAt.alloc {w : World} {h : Hd} {c : ChipM} (hc : ChipAt w h c) (o : Obj) : ChipAt (w.alloc o) h c := ⟨hc.own.alloc o, hc.words.alloc o, hc.wear.alloc o, hc.room, hc.cap⟩
theorem JobAt.alloc {w : World} {h : Fh} {m : FlashM} (x : JobAt w h m) (o : Obj) : JobAt (w.alloc o) h m :=
  ⟨fun j => by
    obtain ⟨a, b, c, d⟩ := x.prog j
    exact ⟨a.alloc o, b.alloc o, c.alloc o, d⟩,
   fun j => by
    obtain ⟨a, b, d⟩ := x.erase j
    exact ⟨a.alloc o, b.alloc o, d⟩⟩
theorem FlashAt.alloc {w : World} {h : Fh} {m : FlashM} (x : FlashAt w h m) (o : Obj) : FlashAt (w.alloc o) h m :=
  ⟨x.chip.alloc o, x.own.alloc o, x.locks.of_block (Below.heap_alloc w o h.l x.locks.lt), x.job.alloc o⟩
theorem FlashAt.begin {w : World} {h : Fh} {m : FlashM} (x : FlashAt w h m) (h' : Fh) (m' : FlashM) (u : Value)
    (hc : h'.c = h.c) (hf : h'.f = h.f) (hl : h'.l = h.l) (e : ((flCells h m).set 5 (.int .i64 m'.left)).set 6 u = flCells h' m') (ec : m'.chip = m.chip) (el : m'.locks = m.locks) (ej : JobAt w h' m') :
    FlashAt ((w.setCell ⟨h.f, 5, none⟩ (.int .i64 m'.left)).setCell ⟨h.f, 6, none⟩ u) h' m' := by
  have n1 := x.fp
  have n2 := x.fbw
  have n3 := x.fbe
  have n4 := x.fl
  refine ⟨?_, ?_, ?_, ?_⟩
  · rw [ec, hc]
    exact ⟨(x.chip.own.far (p := ⟨h.f, 5, none⟩) (Ne.symm n1) _).far (p := ⟨h.f, 6, none⟩) (Ne.symm n1) u, (x.chip.words.far (p := ⟨h.f, 5, none⟩) (Ne.symm n2) _).far (p := ⟨h.f, 6, none⟩) (Ne.symm n2) u,
      (x.chip.wear.far (p := ⟨h.f, 5, none⟩) (Ne.symm n3) _).far (p := ⟨h.f, 6, none⟩) (Ne.symm n3) u, x.chip.room, x.chip.cap⟩
  · rw [hf]
    exact ((x.own.put 5 _).put 6 u).as e
  · rw [el, hl]
    exact (x.locks.of_block (Below.heap_setCell w ⟨h.f, 5, none⟩ _ h.l (Ne.symm n4))).of_block (Below.heap_setCell _ ⟨h.f, 6, none⟩ u h.l (Ne.symm n4))
  · exact (ej.far (by rw [hf]; exact x.own) (p := ⟨h.f, 5, none⟩) hf.symm _).far (by rw [hf]; exact x.own.put 5 _) (p := ⟨h.f, 6, none⟩) hf.symm u
end Go.Proofs.YtpkkejdjhnmjiaaGreat
namespace Go.Proofs.YtpkkejdjhnmjiaaGreat
open Go.RowKit Bm
theorem FlashAt.c_lt {w : World} {h : Fh} {m : FlashM} (x : FlashAt w h m) {i : Nat} (hi : h.c.own i) : i < w.heap.size := by
  rcases hi with rfl | rfl | rfl
  · exact x.chip.own.lt
  · exact x.chip.words.lt
  · exact x.chip.wear.lt
theorem ran_new {h : Fh} {m' : FlashM} {w w' : World} (j1 j2 j3 : Nat) (x : FlashAt w' { h with j1 := j1, j2 := j2, j3 := j3 } m') (t : Turned h.own w w') : Ran h m' w (.returned (.tuple #[])) w' := ⟨rfl, j1, j2, j3, x, t⟩
set_option maxRecDepth 100000 in
set_option maxHeartbeats 1000000 in
theorem fprogram_any (h : Fh) (m : FlashM) (i : Nat) (v : BitVec 32) (w : World) (x : FlashAt w h m) (hi : i < 4096) :
    Calls Tryz.prog 105 #[.pointer (some ⟨h.f, 0, none⟩), .int .i64 (i : Int), .int .u32 (U v)] w (Ran h (fProgram m i v) w) := by
  obtain ⟨b, hb⟩ : ∃ b, b = i / 64 := ⟨_, rfl⟩
  have x3 := ((x.alloc (.cells #[.pointer (some ⟨h.f, 0, none⟩)] 54)).alloc (.cells #[.int .i64 (i : Int)] 3)).alloc (.cells #[.int .u32 (U v)] 36)
  have t3 := (((Turned.refl h.own w).alloc (.cells #[.pointer (some ⟨h.f, 0, none⟩)] 54)).alloc (.cells #[.int .i64 (i : Int)] 3)).alloc (.cells #[.int .u32 (U v)] 36)
  have a1 : At (((w.alloc (.cells #[.pointer (some ⟨h.f, 0, none⟩)] 54)).alloc (.cells #[.int .i64 (i : Int)] 3)).alloc (.cells #[.int .u32 (U v)] 36)) w.heap.size 54 [.pointer (some ⟨h.f, 0, none⟩)] :=
    ((At.alloc_new _ _ _ rfl rfl).alloc _).alloc _
  have a2 : At (((w.alloc (.cells #[.pointer (some ⟨h.f, 0, none⟩)] 54)).alloc (.cells #[.int .i64 (i : Int)] 3)).alloc (.cells #[.int .u32 (U v)] 36)) (w.heap.size + 1) 3 [.int .i64 (i : Int)] :=
    (At.alloc_new _ _ _ (by rw [World.size_alloc]) rfl).alloc _
  have a3 : At (((w.alloc (.cells #[.pointer (some ⟨h.f, 0, none⟩)] 54)).alloc (.cells #[.int .i64 (i : Int)] 3)).alloc (.cells #[.int .u32 (U v)] 36)) (w.heap.size + 1 + 1) 36 [.int .u32 (U v)] :=
    At.alloc_new _ _ _ (by rw [World.size_alloc, World.size_alloc]) rfl
  have a4 : ∀ i, h.c.own i → i < w.heap.size := fun i hi => x.c_lt hi
  obtain ⟨W, hW⟩ : ∃ W, W = (((w.alloc (.cells #[.pointer (some ⟨h.f, 0, none⟩)] 54)).alloc (.cells #[.int .i64 (i : Int)] 3)).alloc (.cells #[.int .u32 (U v)] 36)) := ⟨_, rfl⟩
  rw [← hW] at x3 t3 a1 a2 a3
  have HW := Lib.hid hW
  clear hW
  have hrun := fun n => (x3.locks.drewN n).look b (by omega)
  have g3 := x3.own.cell 3
  have g4 := x3.own.cell 4
  have g5 := x3.own.cell 5
  have g6 := x3.own.cell 6
  simp only [flCells, List.getElem?_cons_zero, List.getElem?_cons_succ] at g3 g4 g5 g6
  have c1 := a1.cell 0
  have c2 := a2.cell 0
  have c3 := a3.cell 0
  simp only [List.getElem?_cons_zero] at c1 c2 c3
  have f3 := x3.own.frozen 3
  have f5 := x3.own.frozen 5
  have f6 := x3.own.frozen 6
  have h0 : (0 : Int) ≤ (i : Int) := by omega
  have h1 : (i : Int) ≤ 4096 := by omega
  have HB := Lib.hid hb
  have X3 := Lib.hid x3
  have T3 := Lib.hid t3
  have A1 := Lib.hid a1
  have A2 := Lib.hid a2
  have A3 := Lib.hid a3
  have A4 := Lib.hid a4
  unfold fProgram
  rw [← hb]
  clear hb x3 t3 a1 a2 a3 a4 x
  by_cases hl : lk m.locks b = true
  · rw [if_pos hl]
    rw [hl] at hrun
    simp only [zI, if_true] at hrun
    clear hl
    go_enter Tryz.func105, Tryz.ntmps105
    go_wp2
    rw [← HW.out]
    go_quiet ((go_at_call 109; exact Calls.quiet_of_same (block_is _ _ _ HB.out (by omega))))
    go_wp2
    go_end0
    exact ran_new h.j1 h.j2 h.j3 ((X3.out.drewN nq).putErrors _) (turned_f (T3.out.drewN nq) _ _)
  · rw [if_neg hl]
    rw [show lk m.locks b = false by simpa using hl] at hrun
    simp only [zI, Bool.false_eq_true, if_false] at hrun
    clear hl
    go_enter Tryz.func105, Tryz.ntmps105
    go_wp2
    rw [← HW.out]
    go_quiet ((go_at_call 109; exact Calls.quiet_of_same (block_is _ _ _ HB.out (by omega))))
    go_wp2
    go_end0
    refine ran_new w.heap.size (w.heap.size + 1) (w.heap.size + 1 + 1) ((X3.out.drewN nq).begin { h with j1 := w.heap.size, j2 := w.heap.size + 1, j3 := w.heap.size + 1 + 1 } { m with job := 64, at_ := i, v := v, left := 3 } _ rfl rfl rfl rfl rfl rfl ⟨fun _ => ⟨A1.out.drewN nq, A2.out.drewN nq, A3.out.drewN nq, ?_⟩, fun e => by cases e⟩) (turned_f (turned_f (T3.out.drewN nq) _ _) _ _)
    intro y hy
    have := A4.out y hy
    rintro (e | e | e) <;> simp only at e <;> omega
end Go.Proofs.YtpkkejdjhnmjiaaGreat
namespace Go.Proofs.YtpkkejdjhnmjiaaGreat
open Go.RowKit Bm
theorem U_bne_false {x y : BitVec 32} (h : x = y) : (U x != U y) = false := by rw [h]; simp
theorem U_bne_true {x y : BitVec 32} (h : ¬ x = y) : (U x != U y) = true := by rw [bne_iff_ne]; exact fun e => h (U_inj e)
theorem U_beq_true {x y : BitVec 32} (h : x = y) : (U x == U y) = true := by rw [h]; simp
set_option maxRecDepth 100000 in
set_option maxHeartbeats 2000000 in
theorem ferase_any (h : Fh) (m : FlashM) (i : Nat) (v : BitVec 32) (w : World) (x : FlashAt w h m) (hi : i < 4096) :
    Calls Tryz.prog 106 #[.pointer (some ⟨h.f, 0, none⟩), .int .i64 (i : Int), .int .u32 (U v)] w (Ran h (fErase m i (v &&& 255#32)) w) := by
  obtain ⟨b, hb⟩ : ∃ b, b = i / 64 := ⟨_, rfl⟩
  have x3 := ((x.alloc (.cells #[.pointer (some ⟨h.f, 0, none⟩)] 54)).alloc (.cells #[.int .i64 (b : Int)] 3))
  have t3 := ((Turned.refl h.own w).alloc (.cells #[.pointer (some ⟨h.f, 0, none⟩)] 54)).alloc (.cells #[.int .i64 (b : Int)] 3)
  have a1 : At ((w.alloc (.cells #[.pointer (some ⟨h.f, 0, none⟩)] 54)).alloc (.cells #[.int .i64 (b : Int)] 3)) w.heap.size 54 [.pointer (some ⟨h.f, 0, none⟩)] :=
    ((At.alloc_new _ _ _ rfl rfl).alloc _)
  have a2 : At ((w.alloc (.cells #[.pointer (some ⟨h.f, 0, none⟩)] 54)).alloc (.cells #[.int .i64 (b : Int)] 3)) (w.heap.size + 1) 3 [.int .i64 (b : Int)] :=
    (At.alloc_new _ _ _ (by rw [World.size_alloc]) rfl)
  have a4 : ∀ i, h.c.own i → i < w.heap.size := fun i hi => x.c_lt hi
  obtain ⟨W, hW⟩ : ∃ W, W = ((w.alloc (.cells #[.pointer (some ⟨h.f, 0, none⟩)] 54)).alloc (.cells #[.int .i64 (b : Int)] 3)) := ⟨_, rfl⟩
  rw [← hW] at x3 t3 a1 a2
  have HW := Lib.hid hW
  clear hW
  have hrun := fun n => (x3.locks.drewN n).look b (by omega)
  have g3 := x3.own.cell 3
  have g4 := x3.own.cell 4
  have g5 := x3.own.cell 5
  have g6 := x3.own.cell 6
  simp only [flCells, List.getElem?_cons_zero, List.getElem?_cons_succ] at g3 g4 g5 g6
  have c1 := a1.cell 0
  have c2 := a2.cell 0
  simp only [List.getElem?_cons_zero] at c1 c2
  have f3 := x3.own.frozen 3
  have f5 := x3.own.frozen 5
  have f6 := x3.own.frozen 6
  have w3 := x.own.cell 3
  have wf3 := x.own.frozen 3
  have hf := x.own.lt
  simp only [flCells, List.getElem?_cons_zero, List.getElem?_cons_succ] at w3
  have W3 := Lib.hid w3
  have X0 := Lib.hid x
  have WF3 := Lib.hid wf3
  have HF := Lib.hid hf
  clear w3 wf3 hf
  have HB := Lib.hid hb
  have X3 := Lib.hid x3
  have T3 := Lib.hid t3
  have A1 := Lib.hid a1
  have A2 := Lib.hid a2
  have A4 := Lib.hid a4
  unfold fErase
  rw [← hb]
  clear hb x3 t3 a1 a2 a4 x
  by_cases hq : v &&& 255#32 = 208#32
  · have q : (U (v &&& 255#32) != 208) = false := U_bne_false (y := 208#32) hq
    rw [if_neg (by simpa using hq)]
    clear hq
    by_cases hl : lk m.locks b = true
    · rw [if_pos hl]
      rw [hl] at hrun
      simp only [zI, if_true] at hrun
      clear hl
      go_enter Tryz.func106, Tryz.ntmps106
      go_wp2_with (go_at_call 109; (with_reducible refine (block_is _ _ _ HB.out (by omega)).mono ?_); rintro e w' ⟨rfl, rfl⟩)
      rw [← HW.out]
      go_quiet (fail)
      go_wp2
      go_end0
      exact ran_new h.j1 h.j2 h.j3 ((X3.out.drewN nq).putErrors _) (turned_f (T3.out.drewN nq) _ _)
    · rw [if_neg hl]
      rw [show lk m.locks b = false by simpa using hl] at hrun
      simp only [zI, Bool.false_eq_true, if_false] at hrun
      clear hl
      go_enter Tryz.func106, Tryz.ntmps106
      go_wp2_with (go_at_call 109; (with_reducible refine (block_is _ _ _ HB.out (by omega)).mono ?_); rintro e w' ⟨rfl, rfl⟩)
      rw [← HW.out]
      go_quiet (fail)
      go_wp2
      go_end0
      refine ran_new w.heap.size (w.heap.size + 1) h.j3 ((X3.out.drewN nq).begin { h with j1 := w.heap.size, j2 := w.heap.size + 1 } { m with job := 32, at_ := b, left := 20 } _ rfl rfl rfl rfl rfl rfl ⟨fun e => (by cases e), fun _ => ⟨A1.out.drewN nq, A2.out.drewN nq, ?_⟩⟩) (turned_f (turned_f (T3.out.drewN nq) _ _) _ _)
      intro y hy
      have := A4.out y hy
      constructor <;> simp only [ne_eq] <;> omega
  · have q : (U (v &&& 255#32) != 208) = true := U_bne_true (y := 208#32) hq
    rw [if_pos hq]
    clear hq hrun g3 g4 g5 g6 c1 c2 f3 f5 f6
    have w3 := W3.out
    have wf3 := WF3.out
    have hf := HF.out
    have hf1 : h.f < w.heap.size + 1 := by omega
    have hf2 : h.f ≠ w.heap.size := by omega
    have hf3 : h.f ≠ w.heap.size + 1 := by omega
    go_enter Tryz.func106, Tryz.ntmps106
    go_wp2_with (first
      | (go_at_call 109; (with_reducible refine (block_is _ _ _ HB.out (by omega)).mono ?_); rintro e w' ⟨rfl, rfl⟩; skip))
    go_end0
    exact ran_new h.j1 h.j2 h.j3 (((X0.out.putErrors _).alloc _).alloc _) (((turned_f (Turned.refl _ _) _ _).alloc _).alloc _)
theorem FlashAt.locksTo {w w' : World} {h : Fh} {m : FlashM} (x : FlashAt w h m) {l : List Bool} (t : Turned (Just h.l) w w') (hl : LocksAt w' h.l l) : FlashAt w' h { m with locks := l } := by
  have lc := x.lc
  have fl := x.fl
  refine ⟨x.chip.kept t ?_, x.own.kept t fl, hl, ⟨fun j => ?_, fun j => ?_⟩⟩
  · intro i hi e
    exact lc (by unfold Just at e; rw [← e]; exact hi)
  · obtain ⟨a, b, c, d⟩ := x.job.prog j
    exact ⟨a.kept t (fun e => x.locks.ne_cells a e), b.kept t (fun e => x.locks.ne_cells b e), c.kept t (fun e => x.locks.ne_cells c e), d⟩
  · obtain ⟨a, b, d⟩ := x.job.erase j
    exact ⟨a.kept t (fun e => x.locks.ne_cells a e), b.kept t (fun e => x.locks.ne_cells b e), d⟩
theorem turned_l {h : Fh} {w w' : World} (t : Turned (Just h.l) w w') : Turned h.own w w' := t.mono fun _ _ e => .inr (.inr e)
set_option maxRecDepth 100000 in
set_option maxHeartbeats 2000000 in
theorem flock_any (h : Fh) (m : FlashM) (i : Nat) (v : BitVec 32) (w : World) (x : FlashAt w h m) (hi : i < 4096) (hll : m.locks.length = 64) :
    Calls Tryz.prog 107 #[.pointer (some ⟨h.f, 0, none⟩), .int .i64 (i : Int), .int .u32 (U v)] w (Ran h (fLock m i (v &&& 255#32)) w) := by
  obtain ⟨b, hb⟩ : ∃ b, b = i / 64 := ⟨_, rfl⟩
  have g3 := x.own.cell 3
  have g4 := x.own.cell 4
  simp only [flCells, List.getElem?_cons_zero, List.getElem?_cons_succ] at g3 g4
  have f3 := x.own.frozen 3
  have X := Lib.hid x
  unfold fLock
  rw [← hb]
  have xl : LocksAt w.drew h.l m.locks := x.locks.of_block rfl
  by_cases h1 : v &&& 255#32 = 1#32
  · have q1 : (U (v &&& 255#32) == 1) = true := U_beq_true (y := 1#32) h1
    rw [if_pos h1]
    obtain ⟨w1, hrun, hl1, ht1⟩ := xl.store b (by omega) hll
    have HB := Lib.hid hb
    have HL := Lib.hid hl1
    have HT := Lib.hid ht1
    clear hb h1 x hl1 ht1 xl
    go_enter Tryz.func107, Tryz.ntmps107
    go_wp2
    refine wp_region_still_tail 6 (by kernel_rfl) (by kernel_rfl) ?_
    simp only [List.take_succ_cons, List.take_zero, List.drop_succ_cons, List.drop_zero]
    change wpStill _ _ (World.drew _) _ _ _
    repeat still_step
    still_call (block_is _ _ _ HB.out (by omega))
    repeat still_step
    refine wpStill_nil ?_
    change wpList _ _ _ _ _ (World.drew _)
    go_wp2
    go_end0
    exact ran_new h.j1 h.j2 h.j3 ((X.out.kept (Turned.refl NoBlock w).drew (fun _ _ h => h)).locksTo HT.out HL.out) (((Turned.refl _ w).drew).trans (turned_l HT.out))
  have q1 : (U (v &&& 255#32) == 1) = false := U_beq_false (y := 1#32) h1
  rw [if_neg h1]
  clear h1
  by_cases h2 : v &&& 255#32 = 208#32
  · have q2 : (U (v &&& 255#32) == 208) = true := U_beq_true (y := 208#32) h2
    rw [if_pos h2]
    have hh := fun ty => xl.drop b (by omega) hll ty
    have HH := Lib.hid hh
    have HB := Lib.hid hb
    clear hb h2 x hh xl
    go_enter Tryz.func107, Tryz.ntmps107
    go_wp2
    refine wp_region_still_tail 6 (by kernel_rfl) (by kernel_rfl) ?_
    simp only [List.take_succ_cons, List.take_zero, List.drop_succ_cons, List.drop_zero]
    change wpStill _ _ (World.drew _) _ _ _
    repeat still_step
    still_call (block_is _ _ _ HB.out (by omega))
    repeat still_step
    refine wpStill_nil ?_
    change wpList _ _ _ _ _ (World.drew _)
    obtain ⟨w1, hrun, hl1, ht1⟩ := HH.out 0
    have HL := Lib.hid hl1
    have HT := Lib.hid ht1
    clear hl1 ht1
    go_wp2
    go_end0
    exact ran_new h.j1 h.j2 h.j3 ((X.out.kept (Turned.refl NoBlock w).drew (fun _ _ h => h)).locksTo HT.out HL.out) (((Turned.refl _ w).drew).trans (turned_l HT.out))
  have q2 : (U (v &&& 255#32) == 208) = false := U_beq_false (y := 208#32) h2
  rw [if_neg h2]
  clear h2 hb xl x
  go_enter Tryz.func107, Tryz.ntmps107
  go_wp2
  go_end0
  exact ran_new h.j1 h.j2 h.j3 (X.out.putErrors _) (turned_f (Turned.refl _ _) _ _)
end Go.Proofs.YtpkkejdjhnmjiaaGreat
