/- Contracts of package cfi, the small ones: a flash that lies in memory as the plain one says. -/
import Derived.Test.YtfckgfimmoinmaaNor5
import Derived.Test.YtfckgfimmoinmaaCfiMath
import Derived.Test.YtfckgfimmoinmaaCfiLk
import Derived.Deep.QuietTactic
import Derived.BigQuiet
import Derived.Deep.RegionWith
import Derived.Lib.Hide
import Derived.Laws.EntriesVeiled
namespace Go.Proofs.Ytfckgfimmoinmaa
open Go.RowKit Bm

/-- Where a flash lies: its chip, its own block, its locks, and the variables of its job. -/
structure Fh where
  c : Hd
  f : Nat
  l : Nat
  j1 : Nat
  j2 : Nat
  j3 : Nat

def Fh.own (h : Fh) (i : Nat) : Prop := h.c.own i ∨ i = h.f ∨ i = h.l
/-- Those that the job's function reads. -/
def Fh.vars (h : Fh) (i : Nat) : Prop := i = h.j1 ∨ i = h.j2 ∨ i = h.j3

def pendV (n : Int) : Value :=
  if n = 64 then .func (.func 78) #[] #[] else if n = 32 then .func (.func 79) #[] #[]
  else if n = 96 then .func (.func 80) #[] #[] else .nilFunc
def actV (h : Fh) (n : Int) : Value :=
  if n = 64 then .func (.func 90) #[] #[.pointer (some ⟨h.j1, 0, none⟩), .pointer (some ⟨h.j2, 0, none⟩), .pointer (some ⟨h.j3, 0, none⟩)]
  else if n = 32 then .func (.func 92) #[] #[.pointer (some ⟨h.j1, 0, none⟩), .pointer (some ⟨h.j2, 0, none⟩)] else .nilFunc
def flCells (h : Fh) (m : FlashM) : List Value :=
  [.pointer (some ⟨h.c.p, 0, none⟩), .int .i64 m.mode, pendV m.wait, .int .u32 (U m.errors), .map (some h.l), .int .i64 m.left, actV h m.job]

/-- The variables of the job, if there is one; no block of the chip is one of them. -/
structure JobAt (w : World) (h : Fh) (m : FlashM) : Prop where
  prog : m.job = 64 → At w h.j1 26 [.pointer (some ⟨h.f, 0, none⟩)] ∧ At w h.j2 3 [.int .i64 m.at_] ∧ At w h.j3 33 [.int .u32 (U m.v)] ∧ ∀ i, h.c.own i → ¬ h.vars i
  erase : m.job = 32 → At w h.j1 26 [.pointer (some ⟨h.f, 0, none⟩)] ∧ At w h.j2 3 [.int .i64 m.at_] ∧ ∀ i, h.c.own i → i ≠ h.j1 ∧ i ≠ h.j2

structure FlashAt (w : World) (h : Fh) (m : FlashM) : Prop where
  chip : ChipAt w h.c m.chip
  own : At w h.f 97 (flCells h m)
  locks : LocksAt w h.l m.locks
  job : JobAt w h m

section
variable {w w' : World} {h : Fh} {m : FlashM}
theorem FlashAt.fp (x : FlashAt w h m) : h.f ≠ h.c.p := x.own.ne x.chip.own (by decide)
theorem FlashAt.fbw (x : FlashAt w h m) : h.f ≠ h.c.bw := x.own.ne x.chip.words (by decide)
theorem FlashAt.fbe (x : FlashAt w h m) : h.f ≠ h.c.be := x.own.ne x.chip.wear (by decide)
theorem FlashAt.fc (x : FlashAt w h m) : ¬ h.c.own h.f := by
  rintro (e | e | e)
  · exact x.fp e
  · exact x.fbw e
  · exact x.fbe e
theorem FlashAt.lc (x : FlashAt w h m) : ¬ h.c.own h.l := by
  rintro (e | e | e)
  · exact x.locks.ne_cells x.chip.own e.symm
  · exact x.locks.ne_cells x.chip.words e.symm
  · exact x.locks.ne_cells x.chip.wear e.symm
theorem FlashAt.fl (x : FlashAt w h m) : h.f ≠ h.l := x.locks.ne_cells x.own

theorem JobAt.kept {S : Nat → Prop} (x : JobAt w h m) (k : Turned S w w') (hS : ∀ i, h.vars i → i < w.heap.size → ¬ S i) : JobAt w' h m :=
  ⟨fun j => by
    obtain ⟨a, b, c, d⟩ := x.prog j
    exact ⟨a.kept k (hS _ (.inl rfl) a.lt), b.kept k (hS _ (.inr (.inl rfl)) b.lt), c.kept k (hS _ (.inr (.inr rfl)) c.lt), d⟩,
   fun j => by
    obtain ⟨a, b, d⟩ := x.erase j
    exact ⟨a.kept k (hS _ (.inl rfl) a.lt), b.kept k (hS _ (.inr (.inl rfl)) b.lt), d⟩⟩
theorem FlashAt.kept {S : Nat → Prop} (x : FlashAt w h m) (k : Turned S w w') (hS : ∀ i, i < w.heap.size → ¬ S i) : FlashAt w' h m :=
  ⟨⟨x.chip.own.kept k (hS _ x.chip.own.lt), x.chip.words.kept k (hS _ x.chip.words.lt), x.chip.wear.kept k (hS _ x.chip.wear.lt), x.chip.room, x.chip.cap⟩,
   x.own.kept k (hS _ x.own.lt), x.locks.kept k (hS _ x.locks.lt), x.job.kept k fun i _ hi => hS i hi⟩
theorem FlashAt.below {B : Nat} (x : FlashAt w h m) (k : Below B w w') (hB : w.heap.size ≤ B) : FlashAt w' h m := x.kept (Turned.of_below k hB NoBlock) (fun _ _ h => h)
theorem FlashAt.drewN (x : FlashAt w h m) (n : Nat) : FlashAt (w.drewN n) h m := ⟨x.chip.drewN n, x.own, x.locks.drewN n, ⟨x.job.prog, x.job.erase⟩⟩
end

theorem made_any (h : Fh) (m : FlashM) (w : World) (x : FlashAt w h m) :
    Calls Try.prog 50 #[.pointer (some ⟨h.f, 0, none⟩)] w fun e w' => e = .returned (.bool true) ∧ w' = w := by
  have g := x.own.cell 0
  simp only [flCells, List.getElem?_cons_zero] at g
  clear x
  go_enter Try.func50, Try.ntmps50
  go_wp2
  go_ret
  exact ⟨rfl, rfl⟩

theorem busy_any (h : Fh) (m : FlashM) (w : World) (x : FlashAt w h m) :
    Calls Try.prog 66 #[.pointer (some ⟨h.f, 0, none⟩)] w fun e w' => e = .returned (.bool (decide (0 < m.left))) ∧ w' = w := by
  have g := x.own.cell 5
  simp only [flCells, List.getElem?_cons_zero, List.getElem?_cons_succ] at g
  clear x
  go_enter Try.func66, Try.ntmps66
  go_wp2
  go_ret
  exact ⟨rfl, rfl⟩
theorem busy_yes (h : Fh) (m : FlashM) (w : World) (x : FlashAt w h m) (hl : 0 < m.left) :
    Calls Try.prog 66 #[.pointer (some ⟨h.f, 0, none⟩)] w fun e w' => e = .returned (.bool true) ∧ w' = w := by
  have := busy_any h m w x
  rwa [show decide (0 < m.left) = true by simpa using hl] at this
theorem busy_no (h : Fh) (m : FlashM) (w : World) (x : FlashAt w h m) (hl : m.left = 0) :
    Calls Try.prog 66 #[.pointer (some ⟨h.f, 0, none⟩)] w fun e w' => e = .returned (.bool false) ∧ w' = w := by
  have := busy_any h m w x
  rwa [show decide (0 < m.left) = false by rw [hl]; rfl] at this

theorem mRead_err (c : ChipM) (a : Int) : (mRead c a).2 = mRefuse c a c.ws.length := by
  unfold mRead
  split
  · rename_i h; exact h.symm
  · rfl

theorem frefuse_any (h : Fh) (m : FlashM) (k : Nat) (a : Int) (w : World) (x : FlashAt w h m) (ok : FlashOk k m) :
    Calls Try.prog 65 #[.pointer (some ⟨h.f, 0, none⟩), .int .i64 a] w fun e w' => e = .returned (.int .i64 (fRefuse m a)) ∧ w' = w := by
  have g := x.own.cell 0
  simp only [flCells, List.getElem?_cons_zero] at g
  have hr := read_any h.c m.chip k a w x.chip ok.chip
  rw [mRead_err] at hr
  have HR := Lib.hid hr
  have X := Lib.hid x
  clear hr x ok
  go_enter Try.func65, Try.ntmps65
  go_wp2_with (first
    | (go_at_call 50; (with_reducible refine (made_any h m _ X.out).mono ?_); rintro e w' ⟨rfl, rfl⟩)
    | (go_at_call 73; (with_reducible refine HR.out.mono ?_); rintro e w' ⟨rfl, rfl⟩))
  go_ret
  exact ⟨rfl, rfl⟩

theorem U_or128 (x : BitVec 32) : bits .or .u32 (U x) 128 = U (x ||| 128#32) := U_or x 128#32
theorem U_or18 (x : BitVec 32) : bits .or .u32 (U x) 18 = U (x ||| 18#32) := U_or x 18#32
theorem U_or34 (x : BitVec 32) : bits .or .u32 (U x) 34 = U (x ||| 34#32) := U_or x 34#32
theorem U_or48 (x : BitVec 32) : bits .or .u32 (U x) 48 = U (x ||| 48#32) := U_or x 48#32
theorem U_or32 (x : BitVec 32) : bits .or .u32 (U x) 32 = U (x ||| 32#32) := U_or x 32#32
theorem U_and255 (x : BitVec 32) : bits .and .u32 (U x) 255 = U (x &&& 255#32) := U_and x 255#32
theorem U_and128 (x : BitVec 32) : bits .and .u32 (U x) 128 = U (x &&& 128#32) := U_and x 128#32
attribute [go_sem] U_or128 U_or18 U_or34 U_or48 U_or32 U_and255 U_and128

theorem status_any (h : Fh) (m : FlashM) (k : Nat) (w : World) (x : FlashAt w h m) (ok : FlashOk k m) :
    Calls Try.prog 56 #[.pointer (some ⟨h.f, 0, none⟩)] w fun e w' => e = .returned (.int .u32 (U (fStatus m))) ∧ w' = w := by
  have g := x.own.cell 3
  simp only [flCells, List.getElem?_cons_zero, List.getElem?_cons_succ] at g
  by_cases j : m.job = 0
  · have hl := (ok.idle j).2.2
    have e : fStatus m = m.errors ||| 128#32 := by unfold fStatus; rw [if_pos j]
    have X := Lib.hid x
    have HL := Lib.hid hl
    have E := Lib.hid e
    clear x ok j hl e
    go_enter Try.func56, Try.ntmps56
    go_wp2_with (first
      | (go_at_call 50; (with_reducible refine (made_any h m _ X.out).mono ?_); rintro e w' ⟨rfl, rfl⟩)
      | (go_at_call 66; (with_reducible refine (busy_no h m _ X.out HL.out).mono ?_); rintro e w' ⟨rfl, rfl⟩))
    go_ret
    exact ⟨ret_u (by rw [E.out]), rfl⟩
  · have hl := (ok.busy j).2.2.1
    have e : fStatus m = m.errors := by unfold fStatus; rw [if_neg j]
    have X := Lib.hid x
    have HL := Lib.hid hl
    have E := Lib.hid e
    clear x ok j hl e
    go_enter Try.func56, Try.ntmps56
    go_wp2_with (first
      | (go_at_call 50; (with_reducible refine (made_any h m _ X.out).mono ?_); rintro e w' ⟨rfl, rfl⟩)
      | (go_at_call 66; (with_reducible refine (busy_yes h m _ X.out HL.out).mono ?_); rintro e w' ⟨rfl, rfl⟩))
    go_ret
    exact ⟨ret_u (by rw [E.out]), rfl⟩

theorem block_any (i : Nat) (w : World) (hi : i ≤ 1000000) :
    Calls Try.prog 89 #[.int .i64 (i : Int)] w fun e w' => e = .returned (.int .i64 ((i / 64 : Nat) : Int)) ∧ w' = w := by
  have h0 : (0 : Int) ≤ (i : Int) := by omega
  have h1 : (i : Int) ≤ 1000000 := by omega
  go_enter Try.func89, Try.ntmps89
  go_wp2
  go_ret
  exact ⟨ret_i (by omega), rfl⟩

theorem ofNat_small (n : Nat) (h : n ≤ 64) : U (BitVec.ofNat 32 n) = (n : Int) := U_ofNat n (by omega)

theorem query_any (h : Fh) (m : FlashM) (k : Nat) (i : Nat) (w : World) (x : FlashAt w h m) (ok : FlashOk k m) :
    Calls Try.prog 75 #[.pointer (some ⟨h.f, 0, none⟩), .int .i64 (i : Int)] w fun e w' => e = .returned (.int .u32 (U (fQuery m i))) ∧ w' = w := by
  have g := x.own.cell 0
  simp only [flCells, List.getElem?_cons_zero] at g
  have hb := blocks_any h.c m.chip w x.chip
  have HB := Lib.hid hb
  have k2 := ok.chip.k2
  have kw := ok.chip.wears
  have kl : m.chip.wear.length ≤ 64 := by omega
  have e := ofNat_small _ kl
  have E := Lib.hid e
  have kl' : (m.chip.wear.length : Int) ≤ 64 := by omega
  clear hb x ok e k2 kw kl
  unfold fQuery
  by_cases h1 : i = 16
  · subst h1
    go_enter Try.func75, Try.ntmps75
    go_wp2
    go_ret
    exact ⟨rfl, rfl⟩
  by_cases h2 : i = 17
  · subst h2
    go_enter Try.func75, Try.ntmps75
    go_wp2
    go_ret
    exact ⟨rfl, rfl⟩
  by_cases h3 : i = 18
  · subst h3
    go_enter Try.func75, Try.ntmps75
    go_wp2
    go_ret
    exact ⟨rfl, rfl⟩
  by_cases h4 : i = 44
  · subst h4
    go_enter Try.func75, Try.ntmps75
    go_wp2_with (go_at_call 49; (with_reducible refine HB.out.mono ?_); rintro e w' ⟨rfl, rfl⟩)
    go_ret
    exact ⟨ret_u E.out.symm, rfl⟩
  · have q1 : ((i : Int) == 16) = false := by rw [beq_eq_false_iff_ne]; omega
    have q2 : ((i : Int) == 17) = false := by rw [beq_eq_false_iff_ne]; omega
    have q3 : ((i : Int) == 18) = false := by rw [beq_eq_false_iff_ne]; omega
    have q4 : ((i : Int) == 44) = false := by rw [beq_eq_false_iff_ne]; omega
    rw [if_neg h1, if_neg h2, if_neg h3, if_neg h4]
    clear h1 h2 h3 h4
    go_enter Try.func75, Try.ntmps75
    go_wp2
    go_ret
    exact ⟨rfl, rfl⟩
end Go.Proofs.Ytfckgfimmoinmaa
