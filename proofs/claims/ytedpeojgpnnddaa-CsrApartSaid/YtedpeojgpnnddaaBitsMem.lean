/- Plain mathematics of 32-bit words for layer bits: words as BitVec 32, their bits, fields, rotations, and the integer forms in which a walk meets them. | Words for memory: a block that is known whole; what a call may have turned; a slice that reads as a list. | Contracts of the bit-field functions of package bits: whatever word and numbers they are given, each returns the word that XBitsMath names, and leaves memory alone. -/
import Derived.WalkKit
import Derived.Below
import Derived.Laws.OwnMore
import Derived.Laws.MakeOwn
import Derived.Deep.Draws
import Derived.Laws.Rows
import Derived.Deep.AppendLies
import Derived.Test.YtedpeojgpnnddaaRows
import Derived.Deep.QuietTactic
import Derived.BigQuiet
import Derived.Lib.Hide
namespace Go.Proofs.Ytedpeojgpnnddaa.Bm
open Go Go.RowKit

/-- A word as a walk has it. -/
def U (x : BitVec 32) : Int := (x.toNat : Int)
theorem U_nonneg (x : BitVec 32) : 0 ≤ U x := Int.natCast_nonneg _
theorem U_lt (x : BitVec 32) : U x < 4294967296 := by have := x.isLt; unfold U; omega
theorem U_inj {x y : BitVec 32} (h : U x = U y) : x = y := by
  unfold U at h; exact BitVec.eq_of_toNat_eq (by omega)
theorem U_of {a : Int} (h0 : 0 ≤ a) (h1 : a < 4294967296) : ∃ x : BitVec 32, a = U x :=
  ⟨BitVec.ofNat 32 a.toNat, by unfold U; simp only [BitVec.toNat_ofNat]; omega⟩
theorem U_eq_iff {x y : BitVec 32} : U x = U y ↔ x = y := ⟨U_inj, fun h => by rw [h]⟩
theorem U_beq (x y : BitVec 32) : (U x == U y) = (x == y) := by
  rw [Bool.eq_iff_iff]; simp only [beq_iff_eq, U_eq_iff]
theorem U_wf (x : BitVec 32) : (Lit.int .u32 (U x)).wf = true := by
  have h0 := U_nonneg x; have h1 := U_lt x
  simp [Lit.wf, IntKind.signed, IntKind.bits, IntKind.min, IntKind.max]; omega
theorem U_ofNat (n : Nat) (h : n < 4294967296) : U (BitVec.ofNat 32 n) = (n : Int) := by
  unfold U; simp only [BitVec.toNat_ofNat]; omega
@[go_sem] theorem U_and (x y : BitVec 32) : bits .and .u32 (U x) (U y) = U (x &&& y) := by
  unfold U; rw [u32_and_nat _ _ x.isLt y.isLt, BitVec.toNat_and]
@[go_sem] theorem U_or (x y : BitVec 32) : bits .or .u32 (U x) (U y) = U (x ||| y) := by
  unfold U; rw [u32_or_nat _ _ x.isLt y.isLt, BitVec.toNat_or]
@[go_sem] theorem U_xor (x y : BitVec 32) : bits .xor .u32 (U x) (U y) = U (x ^^^ y) := by
  unfold U; rw [u32_xor_nat _ _ x.isLt y.isLt, BitVec.toNat_xor]
@[go_sem] theorem U_andNot (x y : BitVec 32) : bits .andNot .u32 (U x) (U y) = U (x &&& ~~~y) := by
  unfold U; rw [u32_andNot_nat _ _ x.isLt y.isLt, BitVec.toNat_and, BitVec.toNat_not]
@[go_sem] theorem U_not (y : BitVec 32) : bits .xor .u32 4294967295 (U y) = U (~~~y) := by
  have h : (4294967295 : Int) = U (BitVec.allOnes 32) := by decide
  rw [h, U_xor, BitVec.allOnes_xor]
@[go_sem] theorem U_notMax (y : BitVec 32) : bits .xor .u32 IntKind.u32.max (U y) = U (~~~y) := U_not y
theorem U_shr (x : BitVec 32) (n : Nat) : U x / 2 ^ n = U (x >>> n) := by
  unfold U; rw [BitVec.toNat_ushiftRight, Nat.shiftRight_eq_div_pow]; simp
theorem U_shl (x : BitVec 32) (n : Nat) : U x * 2 ^ n % 4294967296 = U (x <<< n) := by
  unfold U; rw [BitVec.toNat_shiftLeft, Nat.shiftLeft_eq]; simp
theorem U_sub (x y : BitVec 32) : (U x - U y) % 4294967296 = U (x - y) := by
  have := x.isLt; have := y.isLt
  unfold U; rw [BitVec.toNat_sub]; omega
theorem U_add (x y : BitVec 32) : (U x + U y) % 4294967296 = U (x + y) := by
  unfold U; rw [BitVec.toNat_add]; omega
theorem U_mul (x y : BitVec 32) : (U x * U y) % 4294967296 = U (x * y) := by
  unfold U; rw [BitVec.toNat_mul]; simp

/-- Bit i of a word; 0 outside. -/
def gb (x : BitVec 32) (i : Int) : Bool := decide (0 ≤ i) && x.getLsbD i.toNat
theorem gb_nat (x : BitVec 32) (i : Nat) : gb x (i : Int) = x.getLsbD i := by simp [gb]
theorem gb_out {x : BitVec 32} {i : Int} (h : i < 0 ∨ 32 ≤ i) : gb x i = false := by
  unfold gb
  rcases h with h | h
  · simp; intro; omega
  · have : x.getLsbD i.toNat = false := BitVec.getLsbD_of_ge _ _ (by omega)
    simp [this]
theorem gb_ext {x y : BitVec 32} (h : ∀ i : Int, 0 ≤ i → i < 32 → gb x i = gb y i) : x = y := by
  apply BitVec.eq_of_getLsbD_eq
  intro i hi
  have := h (i : Int) (by omega) (by omega)
  rwa [gb_nat, gb_nat] at this
theorem gb_and (x y : BitVec 32) (i : Int) : gb (x &&& y) i = (gb x i && gb y i) := by
  unfold gb; rw [BitVec.getLsbD_and]; cases decide (0 ≤ i) <;> simp
theorem gb_or (x y : BitVec 32) (i : Int) : gb (x ||| y) i = (gb x i || gb y i) := by
  unfold gb; rw [BitVec.getLsbD_or]; cases decide (0 ≤ i) <;> simp
theorem gb_xor (x y : BitVec 32) (i : Int) : gb (x ^^^ y) i = (gb x i ^^ gb y i) := by
  unfold gb; rw [BitVec.getLsbD_xor]; cases decide (0 ≤ i) <;> simp
theorem gb_not (x : BitVec 32) (i : Int) : gb (~~~x) i = (decide (0 ≤ i ∧ i < 32) && !gb x i) := by
  unfold gb; rw [BitVec.getLsbD_not]
  by_cases h : 0 ≤ i
  · have : i.toNat < 32 ↔ i < 32 := by omega
    simp [h, this]
  · simp [h]
theorem gb_zero (i : Int) : gb 0#32 i = false := by unfold gb; simp
theorem gb_ones (i : Int) : gb (BitVec.allOnes 32) i = decide (0 ≤ i ∧ i < 32) := by
  unfold gb; rw [BitVec.getLsbD_allOnes]
  by_cases h : 0 ≤ i
  · have : i.toNat < 32 ↔ i < 32 := by omega
    simp [h, this]
  · simp [h]

/-- A word moved up by so many places, or down. -/
def shiftB (x : BitVec 32) (k : Int) : BitVec 32 := if k < 0 then x >>> (-k).toNat else x <<< k.toNat
theorem gb_shift (x : BitVec 32) (k i : Int) : gb (shiftB x k) i = (decide (0 ≤ i ∧ i < 32) && gb x (i - k)) := by
  by_cases hi : 0 ≤ i
  · by_cases hi2 : i < 32
    · unfold shiftB gb
      by_cases hk : k < 0
      · rw [if_pos hk, BitVec.getLsbD_ushiftRight]
        have e : (-k).toNat + i.toNat = (i - k).toNat := by omega
        have p : 0 ≤ i - k := by omega
        simp only [e, hi, hi2, p, decide_true, and_self, Bool.true_and]
      · rw [if_neg hk, BitVec.getLsbD_shiftLeft]
        by_cases hl : i < k
        · have a : i.toNat < k.toNat := by omega
          have p : decide (0 ≤ i - k) = false := by simp; omega
          rw [p]; simp [a]
        · have a : ¬ i.toNat < k.toNat := by omega
          have p : decide (0 ≤ i - k) = true := by simp; omega
          have e : i.toNat - k.toNat = (i - k).toNat := by omega
          have b : i.toNat < 32 := by omega
          rw [p, e]; simp [a, b, hi, hi2]
    · rw [gb_out (Or.inr (by omega))]; simp [hi2]
  · rw [gb_out (Or.inl (by omega))]; simp [hi]

/-- The word whose lowest n bits are set. -/
def lowB (n : Int) : BitVec 32 := if n < 1 then 0#32 else if 32 ≤ n then BitVec.allOnes 32 else (1#32 <<< n.toNat) - 1#32
theorem low_mid (n : Nat) (h : n < 32) : ((1#32 <<< n) - 1#32).toNat = 2 ^ n - 1 := by
  have h2 : 2 ^ n < 2 ^ 32 := Nat.pow_lt_pow_right (by decide) h
  have h1 : 0 < 2 ^ n := Nat.two_pow_pos n
  rw [BitVec.toNat_sub, BitVec.toNat_shiftLeft, Nat.shiftLeft_eq]
  simp only [BitVec.toNat_ofNat]
  rw [show 1 % 2 ^ 32 = 1 from rfl, Nat.one_mul, Nat.mod_eq_of_lt h2]
  omega
theorem gb_low (n i : Int) : gb (lowB n) i = decide (0 ≤ i ∧ i < 32 ∧ i < n) := by
  by_cases hi : 0 ≤ i ∧ i < 32
  · obtain ⟨a, b⟩ := hi
    unfold lowB
    by_cases h1 : n < 1
    · rw [if_pos h1, gb_zero]
      have : ¬ i < n := by omega
      simp [this]
    · rw [if_neg h1]
      by_cases h2 : 32 ≤ n
      · rw [if_pos h2, gb_ones]
        have : i < n := by omega
        simp [this]
      · rw [if_neg h2]
        unfold gb
        rw [BitVec.getLsbD, low_mid _ (by omega), Nat.testBit_two_pow_sub_one]
        have : i.toNat < n.toNat ↔ i < n := by omega
        simp [a, b, this]
  · rw [gb_out (by omega)]
    have : ¬ (0 ≤ i ∧ i < 32 ∧ i < n) := fun h => hi ⟨h.1, h.2.1⟩
    simp [this]

/-- Field, Put, Partial, Sign, Turn. -/
def partB (f t p : BitVec 32) : BitVec 32 := (f &&& ~~~p) ||| (t &&& p)
def fieldB (x : BitVec 32) (at_ n : Int) : BitVec 32 := shiftB x (-at_) &&& lowB n
def putB (x : BitVec 32) (at_ n : Int) (v : BitVec 32) : BitVec 32 := partB x (shiftB v at_) (shiftB (lowB n) at_)
def signB (v : BitVec 32) (n : Int) : BitVec 32 :=
  if n < 1 ∨ 32 ≤ n then v else if gb v (n - 1) then v ||| ~~~lowB n else v &&& lowB n
def turnB (x : BitVec 32) (k : Int) : BitVec 32 := (x <<< (k % 32).toNat) ||| (x >>> (32 - k % 32).toNat)

theorem gb_part (f t p : BitVec 32) (i : Int) : gb (partB f t p) i = if gb p i then gb t i else gb f i := by
  by_cases hi : 0 ≤ i ∧ i < 32
  · unfold partB; rw [gb_or, gb_and, gb_and, gb_not]
    cases gb p i <;> simp [hi]
  · rw [gb_out (by omega), gb_out (x := t) (by omega), gb_out (x := f) (by omega)]; simp
theorem gb_field (x : BitVec 32) (at_ n i : Int) : gb (fieldB x at_ n) i = (decide (0 ≤ i ∧ i < 32 ∧ i < n) && gb x (at_ + i)) := by
  unfold fieldB; rw [gb_and, gb_shift, gb_low, show i - -at_ = at_ + i by omega]
  by_cases h : 0 ≤ i ∧ i < 32
  · simp [h]; by_cases g : i < n <;> simp [g]
  · have : ¬ (0 ≤ i ∧ i < 32 ∧ i < n) := fun g => h ⟨g.1, g.2.1⟩
    simp only [h, this, decide_false, Bool.false_and, Bool.and_false]
theorem gb_put (x : BitVec 32) (at_ n : Int) (v : BitVec 32) (j : Int) :
    gb (putB x at_ n v) j = if 0 ≤ j ∧ j < 32 ∧ 0 ≤ j - at_ ∧ j - at_ < 32 ∧ j - at_ < n then gb v (j - at_) else gb x j := by
  unfold putB; rw [gb_part, gb_shift, gb_shift, gb_low]
  by_cases h : 0 ≤ j ∧ j < 32
  · by_cases g : 0 ≤ j - at_ ∧ j - at_ < 32 ∧ j - at_ < n
    · simp [h, g]
    · have : ¬ (0 ≤ j ∧ j < 32 ∧ 0 ≤ j - at_ ∧ j - at_ < 32 ∧ j - at_ < n) := fun k => g k.2.2
      have g2 : decide (0 ≤ j - at_ ∧ j - at_ < 32 ∧ j - at_ < n) = false := by simpa using g
      rw [if_neg this, g2]; simp
  · have : ¬ (0 ≤ j ∧ j < 32 ∧ 0 ≤ j - at_ ∧ j - at_ < 32 ∧ j - at_ < n) := fun k => h ⟨k.1, k.2.1⟩
    rw [if_neg this]; simp [h]
theorem gb_sign (v : BitVec 32) (n i : Int) (h1 : 1 ≤ n) (h2 : n < 32) (hi : 0 ≤ i) (hi2 : i < 32) : gb (signB v n) i = if i < n then gb v i else gb v (n - 1) := by
  unfold signB; rw [if_neg (by omega)]
  by_cases hs : gb v (n - 1) = true
  · rw [if_pos hs, gb_or, gb_not, gb_low, hs]
    by_cases g : i < n <;> simp [g, hi, hi2]
  · have hs' : gb v (n - 1) = false := by simpa using hs
    rw [if_neg hs, gb_and, gb_low, hs']
    by_cases g : i < n <;> simp [g, hi, hi2]
theorem gb_turn (x : BitVec 32) (k i : Int) (hi : 0 ≤ i) (hi2 : i < 32) : gb (turnB x k) i = gb x ((i - k) % 32) := by
  have m0 : 0 ≤ k % 32 := by omega
  have m1 : k % 32 < 32 := by omega
  unfold turnB
  generalize hm : k % 32 = m at *
  have e1 : x <<< m.toNat = shiftB x m := by unfold shiftB; rw [if_neg (by omega)]
  have e2 : x >>> (32 - m).toNat = shiftB x (-(32 - m)) := by unfold shiftB; rw [if_pos (by omega)]; congr 1; omega
  rw [e1, e2, gb_or, gb_shift, gb_shift]
  by_cases h : i < m
  · rw [gb_out (x := x) (i := i - m) (by omega)]
    have : (i - k) % 32 = i - -(32 - m) := by omega
    simp [hi, hi2, this]
  · rw [gb_out (x := x) (i := i - -(32 - m)) (by omega)]
    have : (i - k) % 32 = i - m := by omega
    simp [hi, hi2, this]
end Go.Proofs.Ytedpeojgpnnddaa.Bm

namespace Go.Proofs.Ytedpeojgpnnddaa
open Go.RowKit Bm

/-- Block b is just the cells cs, of element type t; none is frozen. -/
def At (w : World) (b : Nat) (t : TypeId) (cs : List Value) : Prop := w.heap[b]? = some (.cells cs.toArray t (0, 0))

/-- Of what was there only blocks of S may have turned. -/
structure Turned (S : Nat → Prop) (w w' : World) : Prop where
  os : w'.os = w.os
  tape : w'.tape = w.tape
  output : w'.output = w.output
  size : w.heap.size ≤ w'.heap.size
  block : ∀ k, k < w.heap.size → ¬ S k → w'.heap[k]? = w.heap[k]?

def NoBlock : Nat → Prop := fun _ => False
def Just (b i : Nat) : Prop := i = b

section
variable {w w' : World} {b : Nat} {t : TypeId} {cs : List Value}

theorem At.lt (h : At w b t cs) : b < w.heap.size := (Array.getElem?_eq_some_iff.1 h).1
theorem At.cell (h : At w b t cs) (i : Nat) : w.cell? ⟨b, i, none⟩ = cs[i]? := by
  unfold At at h
  simp [World.cell?, h]
theorem At.frozen (h : At w b t cs) (i : Nat) : w.frozen? ⟨b, i, none⟩ = false := by
  unfold At at h
  simp [World.frozen?, h]
theorem At.news (w : World) (t : TypeId) (cs : List Value) : At (w.alloc (.cells cs.toArray t)) w.heap.size t cs := heap_alloc_new w _
theorem At.alloc_new {w : World} (o : Obj) {n : Nat} (t : TypeId) (cs : List Value) (h : n = w.heap.size) (ho : o = .cells cs.toArray t) : At (w.alloc o) n t cs := by
  subst h ho
  exact heap_alloc_new w _
theorem At.drew (h : At w b t cs) : At w.drew b t cs := h
theorem At.drewN (h : At w b t cs) (n : Nat) : At (w.drewN n) b t cs := h
theorem At.alloc (h : At w b t cs) (o : Obj) : At (w.alloc o) b t cs := (Below.heap_alloc w o b h.lt).trans h
theorem At.put (h : At w b t cs) (i : Nat) (u : Value) : At (w.setCell ⟨b, i, none⟩ u) b t (cs.set i u) := by
  unfold At at h ⊢
  simp [World.setCell, Array.getElem?_modify, h]
theorem At.far (h : At w b t cs) {p : Addr} (hp : b ≠ p.block) (u : Value) : At (w.setCell p u) b t cs := (Below.heap_setCell w p u b hp).trans h
theorem At.kept (h : At w b t cs) {S : Nat → Prop} (k : Turned S w w') (hS : ¬ S b) : At w' b t cs := (k.block b h.lt hS).trans h
theorem At.ne {b' : Nat} {t' : TypeId} {cs' : List Value} (h : At w b t cs) (h' : At w b' t' cs') (hne : t ≠ t') : b ≠ b' := by
  rintro rfl
  unfold At at h h'
  rw [h] at h'
  injection h' with h'
  injection h' with _ ht
  exact hne ht
theorem At.as (h : At w b t cs) {cs' : List Value} (e : cs = cs') : At w b t cs' := e ▸ h
end

section
variable {S S' : Nat → Prop} {a w w' w'' : World}
theorem Turned.refl (S : Nat → Prop) (w : World) : Turned S w w := ⟨rfl, rfl, rfl, Nat.le_refl _, fun _ _ _ => rfl⟩
theorem Turned.trans (h : Turned S w w') (k : Turned S w' w'') : Turned S w w'' :=
  ⟨k.os.trans h.os, k.tape.trans h.tape, k.output.trans h.output, Nat.le_trans h.size k.size, fun i hi hs => (k.block i (Nat.lt_of_lt_of_le hi h.size) hs).trans (h.block i hi hs)⟩
/-- What turns behind the first step may be new ahead of it. -/
theorem Turned.after (h : Turned S w w') (k : Turned S' w' w'') (hS : ∀ i, i < w.heap.size → S' i → S i) : Turned S w w'' :=
  ⟨k.os.trans h.os, k.tape.trans h.tape, k.output.trans h.output, Nat.le_trans h.size k.size, fun i hi hs => (k.block i (Nat.lt_of_lt_of_le hi h.size) (fun h' => hs (hS i hi h'))).trans (h.block i hi hs)⟩
theorem Turned.mono (h : Turned S w w') (hS : ∀ i, i < w.heap.size → S i → S' i) : Turned S' w w' :=
  ⟨h.os, h.tape, h.output, h.size, fun i hi hs => h.block i hi fun h' => hs (hS i hi h')⟩
theorem Turned.drew (h : Turned S a w) : Turned S a w.drew := ⟨h.os, h.tape, h.output, h.size, h.block⟩
theorem Turned.drewN (h : Turned S a w) (n : Nat) : Turned S a (w.drewN n) := ⟨h.os, h.tape, h.output, h.size, h.block⟩
theorem Turned.alloc (h : Turned S a w) (o : Obj) : Turned S a (w.alloc o) :=
  ⟨h.os, h.tape, h.output, Nat.le_trans h.size (by simp), fun i hi hs => (Below.heap_alloc w o i (Nat.lt_of_lt_of_le hi h.size)).trans (h.block i hi hs)⟩
theorem Turned.setCell (h : Turned S a w) {p : Addr} (hp : p.block < a.heap.size → S p.block) (u : Value) : Turned S a (w.setCell p u) :=
  ⟨h.os, h.tape, h.output, by simpa [World.setCell] using h.size, fun i hi hs => (Below.heap_setCell w p u i (by rintro rfl; exact hs (hp hi))).trans (h.block i hi hs)⟩
theorem Turned.grown (h : Turned S a w) {row : Option Nat} (hg : w.grownBy w' row) (hr : ∀ k, row = some k → k < a.heap.size → S k) : Turned S a w' :=
  ⟨hg.os.trans h.os, hg.tape.trans h.tape, hg.output.trans h.output, Nat.le_trans h.size hg.size,
   fun i hi hs => (hg.block i (Nat.lt_of_lt_of_le hi h.size) (fun e => hs (hr i e.symm hi))).trans (h.block i hi hs)⟩
theorem Turned.of_below {B : Nat} (h : Below B w w') (hB : w.heap.size ≤ B) (S : Nat → Prop) : Turned S w w' := ⟨h.os, h.tape, h.output, h.size, fun i hi _ => h.block i (by omega)⟩
theorem Turned.below {B : Nat} (h : Turned S w w') (hS : ∀ k, S k → B ≤ k) (hB : B ≤ w.heap.size) : Below B w w' :=
  ⟨h.os, h.tape, h.output, h.size, fun k hk => h.block k (by omega) (fun hs => by have := hS k hs; omega)⟩
theorem Turned.cell (h : Turned S w w') {p : Addr} (hp : p.block < w.heap.size) (hs : ¬ S p.block) : w'.cell? p = w.cell? p := World.cell?_of_block (h.block _ hp hs)
theorem Turned.frozen (h : Turned S w w') {p : Addr} (hp : p.block < w.heap.size) (hs : ¬ S p.block) : w'.frozen? p = w.frozen? p := World.frozen?_of_block (h.block _ hp hs)
end

/-- Words as a row of memory has them; numbers likewise. -/
def Us (l : List (BitVec 32)) : List Value := l.map fun x => .int .u32 (U x)
def Is (l : List Int) : List Value := l.map fun x => .int .i64 x
theorem Us_length (l : List (BitVec 32)) : (Us l).length = l.length := by simp [Us]
theorem Is_length (l : List Int) : (Is l).length = l.length := by simp [Is]
/-- A word of a list, a number of a list (0 beyond its end). -/
def wd (l : List (BitVec 32)) (i : Nat) : BitVec 32 := l.getD i 0#32
def nm (l : List Int) (i : Nat) : Int := l.getD i 0
theorem Us_get (l : List (BitVec 32)) (i : Nat) (h : i < l.length) : (Us l)[i]? = some (.int .u32 (U (wd l i))) := by
  simp [Us, wd, h]
theorem Is_get (l : List Int) (i : Nat) (h : i < l.length) : (Is l)[i]? = some (.int .i64 (nm l i)) := by
  simp [Is, nm, h]
theorem Us_set (l : List (BitVec 32)) (i : Nat) (x : BitVec 32) : (Us l).set i (.int .u32 (U x)) = Us (l.set i x) := by
  simp [Us, List.map_set]
theorem Is_set (l : List Int) (i : Nat) (x : Int) : (Is l).set i (.int .i64 x) = Is (l.set i x) := by
  simp [Is, List.map_set]
theorem Us_append (l m : List (BitVec 32)) : Us (l ++ m) = Us l ++ Us m := by simp [Us]
theorem Us_one (l : List (BitVec 32)) : ∀ u ∈ Us l, u.oneCell' = true := by
  intro u hu; simp [Us] at hu; obtain ⟨x, _, rfl⟩ := hu; rfl
theorem Is_one (l : List Int) : ∀ u ∈ Is l, u.oneCell' = true := by
  intro u hu; simp [Is] at hu; obtain ⟨x, _, rfl⟩ := hu; rfl

/-- What a call made: a slice of its own that has the cells xs; nothing that was there has turned. -/
def Fresh (w : World) (t : TypeId) (xs : List Value) (e : Ending) (w' : World) : Prop :=
  ∃ g cap rest, e = .returned (.slice (some ⟨g, 0, none⟩) xs.length cap) ∧ At w' g t (xs ++ rest) ∧ (xs ++ rest).length = cap ∧ cap ≤ maxLen ∧ w.heap.size ≤ g ∧ Below w.heap.size w w'

theorem At.of_own {w : World} {base n g cap : Nat} {t : TypeId} {xs : List Value} (h : w.ownsRow base t 1 (.slice (some ⟨g, 0, none⟩) n cap) n xs) (hn : 0 < n) :
    ∃ rest, At w g t (xs ++ rest) ∧ (xs ++ rest).length = cap ∧ cap ≤ maxLen ∧ base ≤ g ∧ xs.length = n := by
  obtain ⟨hl, h⟩ := h
  rcases h with ⟨_, h⟩ | ⟨g', cap', cur, e, hb, hg, hc, hm, hs, ht⟩
  · omega
  · injection e with e1 _ e2
    injection e1 with e1
    injection e1 with e1
    subst e1 e2
    refine ⟨cur.toList.drop n, ?_, ?_, hm, hb, by omega⟩
    · unfold At
      have e : xs ++ cur.toList.drop n = cur.toList := by
        rw [← ht, Nat.mul_one, List.take_append_drop]
      rw [e]
      simpa using hg
    · rw [List.length_append, List.length_drop, hl]
      simp only [Array.length_toList]
      omega
theorem At.own {w : World} {base n g cap : Nat} {t : TypeId} {xs rest : List Value} (h : At w g t (xs ++ rest)) (hb : base ≤ g) (hl : xs.length = n) (hc : (xs ++ rest).length = cap) (hm : cap ≤ maxLen) :
    w.ownsRow base t 1 (.slice (some ⟨g, 0, none⟩) n cap) n xs := by
  refine ⟨by omega, .inr ⟨g, cap, (xs ++ rest).toArray, rfl, hb, h, by rw [← hc, List.length_append]; omega, hm, by simpa using hc, ?_⟩⟩
  subst hl
  simp

end Go.Proofs.Ytedpeojgpnnddaa

namespace Go.Proofs.Ytedpeojgpnnddaa
open Go.RowKit Bm

theorem ret_u {a b : Int} (h : a = b) : Ending.returned (.int .u32 a) = Ending.returned (.int .u32 b) := by rw [h]

theorem shr_min (x : BitVec 32) (n : Nat) : x >>> (min n 32) = x >>> n := by
  by_cases h : n ≤ 32
  · rw [Nat.min_eq_left h]
  · rw [Nat.min_eq_right (by omega)]
    apply BitVec.eq_of_getLsbD_eq
    intro i hi
    rw [BitVec.getLsbD_ushiftRight, BitVec.getLsbD_ushiftRight, BitVec.getLsbD_of_ge _ _ (by omega), BitVec.getLsbD_of_ge _ _ (by omega)]
theorem shl_min (x : BitVec 32) (n : Nat) : x <<< (min n 32) = x <<< n := by
  by_cases h : n ≤ 32
  · rw [Nat.min_eq_left h]
  · rw [Nat.min_eq_right (by omega)]
    apply BitVec.eq_of_getLsbD_eq
    intro i hi
    rw [BitVec.getLsbD_shiftLeft, BitVec.getLsbD_shiftLeft]
    have a : i < 32 := hi
    have b : i < n := by omega
    simp [a, b]




theorem w64_lo (n : Int) : -9223372036854775808 ≤ wrap64 n := by unfold wrap64; omega
theorem w64_hi (n : Int) : wrap64 n ≤ 9223372036854775807 := by unfold wrap64; omega
theorem field_wrap (x : BitVec 32) (a n : Int) (h3 : -9223372036854775808 ≤ a) (h4 : a ≤ 9223372036854775807) : shiftB x (wrap64 (-a)) &&& lowB n = fieldB x a n := by
  by_cases h : a = -9223372036854775808
  · subst h
    apply gb_ext
    intro i _ _
    rw [gb_field, gb_and, gb_shift, gb_out (x := x), gb_out (x := x)]
    · simp
    · omega
    · unfold wrap64; omega
  · unfold fieldB
    rw [show wrap64 (-a) = -a by unfold wrap64; omega]



theorem i64_and31 (n : Int) : bits .and .i64 n 31 = n % 32 := by
  have h31 : (BitVec.ofInt 64 31).toNat = 2 ^ 5 - 1 := by decide
  have key : (BitVec.ofInt 64 n &&& BitVec.ofInt 64 31).toNat = (n % ((2 ^ 64 : Nat) : Int)).toNat % 2 ^ 5 := by
    rw [BitVec.toNat_and, BitVec.toNat_ofInt, h31, Nat.and_two_pow_sub_one_eq_mod]
  show IntKind.i64.wrap ((BitVec.ofInt 64 n &&& BitVec.ofInt 64 31).toNat : Nat) = n % 32
  rw [key, IntKind.wrap_i64]
  omega


theorem sign_test (x : BitVec 32) (n : Int) : (U (fieldB x (n - 1) 1) == 0) = !gb x (n - 1) := by
  rw [show (0 : Int) = U 0#32 from rfl, U_beq]
  cases hb : gb x (n - 1)
  · have : fieldB x (n - 1) 1 = 0#32 := by
      apply gb_ext; intro i _ _
      rw [gb_field, gb_zero]
      by_cases h : i < 1
      · rw [show n - 1 + i = n - 1 by omega, hb]; simp
      · simp [h]
    rw [this]; rfl
  · have : fieldB x (n - 1) 1 ≠ 0#32 := by
      intro h
      have g := gb_field x (n - 1) 1 0
      rw [h, gb_zero, show n - 1 + 0 = n - 1 by omega, hb] at g
      simp at g
    have h0 : ¬ fieldB x (n - 1) 1 = 0#32 := this
    simp [h0]


end Go.Proofs.Ytedpeojgpnnddaa
