/- Words for memory: a block that is known whole; what a call may have turned; a slice that reads as a list. -/
import Derived.WalkKit
import Derived.Below
import Derived.Laws.OwnMore
import Derived.Laws.MakeOwn
import Derived.Deep.Draws
import Derived.Laws.Rows
import Derived.Deep.AppendLies
import Derived.Test.YtfpfcmgcfbkolaaBitsMath
namespace Go.Proofs.Ytfpfcmgcfbkolaa
open Go.RowKit Bm

/-- Block b is just the cells cs, of element type t; none is frozen. -/
def At (w : World) (b : Nat) (t : TypeId) (cs : List Value) : Prop := w.heap[b]? = some (.cells cs.toArray t (0, 0))

/-- Of what was there only blocks of S may have turned. -/
structure Turned (S : Nat → Prop) (w w' : World) : Prop where
  os : w'.os = w.os
  tape : w'.tape = w.tape
  output : w'.output = w.output
  size : w.heap.size ≤ w'.heap.size
  block : ∀ k, k < w.heap.size → ¬ S k → w'.heap[k]? = w.heap[k]?

def NoBlock : Nat → Prop := fun _ => False

section
variable {w w' : World} {b : Nat} {t : TypeId} {cs : List Value}

theorem At.lt (h : At w b t cs) : b < w.heap.size := (Array.getElem?_eq_some_iff.1 h).1
theorem At.cell (h : At w b t cs) (i : Nat) : w.cell? ⟨b, i, none⟩ = cs[i]? := by
  unfold At at h
  simp [World.cell?, h]
theorem At.frozen (h : At w b t cs) (i : Nat) : w.frozen? ⟨b, i, none⟩ = false := by
  unfold At at h
  simp [World.frozen?, h]
theorem At.news (w : World) (t : TypeId) (cs : List Value) : At (w.alloc (.cells cs.toArray t)) w.heap.size t cs := heap_alloc_new w _
theorem At.drew (h : At w b t cs) : At w.drew b t cs := h
theorem At.drewN (h : At w b t cs) (n : Nat) : At (w.drewN n) b t cs := h
theorem At.alloc (h : At w b t cs) (o : Obj) : At (w.alloc o) b t cs := (Below.heap_alloc w o b h.lt).trans h
theorem At.put (h : At w b t cs) (i : Nat) (u : Value) : At (w.setCell ⟨b, i, none⟩ u) b t (cs.set i u) := by
  unfold At at h ⊢
  simp [World.setCell, Array.getElem?_modify, h]
theorem At.far (h : At w b t cs) {p : Addr} (hp : b ≠ p.block) (u : Value) : At (w.setCell p u) b t cs := (Below.heap_setCell w p u b hp).trans h
theorem At.kept (h : At w b t cs) {S : Nat → Prop} (k : Turned S w w') (hS : ¬ S b) : At w' b t cs := (k.block b h.lt hS).trans h
theorem At.ne {b' : Nat} {t' : TypeId} {cs' : List Value} (h : At w b t cs) (h' : At w b' t' cs') (hne : t ≠ t') : b ≠ b' := by
  rintro rfl
  unfold At at h h'
  rw [h] at h'
  injection h' with h'
  injection h' with _ ht
  exact hne ht
theorem At.as (h : At w b t cs) {cs' : List Value} (e : cs = cs') : At w b t cs' := e ▸ h
end

section
variable {S S' : Nat → Prop} {a w w' w'' : World}
theorem Turned.refl (S : Nat → Prop) (w : World) : Turned S w w := ⟨rfl, rfl, rfl, Nat.le_refl _, fun _ _ _ => rfl⟩
theorem Turned.trans (h : Turned S w w') (k : Turned S w' w'') : Turned S w w'' :=
  ⟨k.os.trans h.os, k.tape.trans h.tape, k.output.trans h.output, Nat.le_trans h.size k.size, fun i hi hs => (k.block i (Nat.lt_of_lt_of_le hi h.size) hs).trans (h.block i hi hs)⟩
/-- What turns behind the first step may be new ahead of it. -/
theorem Turned.after (h : Turned S w w') (k : Turned S' w' w'') (hS : ∀ i, i < w.heap.size → S' i → S i) : Turned S w w'' :=
  ⟨k.os.trans h.os, k.tape.trans h.tape, k.output.trans h.output, Nat.le_trans h.size k.size, fun i hi hs => (k.block i (Nat.lt_of_lt_of_le hi h.size) (fun h' => hs (hS i hi h'))).trans (h.block i hi hs)⟩
theorem Turned.mono (h : Turned S w w') (hS : ∀ i, i < w.heap.size → S i → S' i) : Turned S' w w' :=
  ⟨h.os, h.tape, h.output, h.size, fun i hi hs => h.block i hi fun h' => hs (hS i hi h')⟩
theorem Turned.drew (h : Turned S a w) : Turned S a w.drew := ⟨h.os, h.tape, h.output, h.size, h.block⟩
theorem Turned.drewN (h : Turned S a w) (n : Nat) : Turned S a (w.drewN n) := ⟨h.os, h.tape, h.output, h.size, h.block⟩
theorem Turned.alloc (h : Turned S a w) (o : Obj) : Turned S a (w.alloc o) :=
  ⟨h.os, h.tape, h.output, Nat.le_trans h.size (by simp), fun i hi hs => (Below.heap_alloc w o i (Nat.lt_of_lt_of_le hi h.size)).trans (h.block i hi hs)⟩
theorem Turned.setCell (h : Turned S a w) {p : Addr} (hp : p.block < a.heap.size → S p.block) (u : Value) : Turned S a (w.setCell p u) :=
  ⟨h.os, h.tape, h.output, by simpa [World.setCell] using h.size, fun i hi hs => (Below.heap_setCell w p u i (by rintro rfl; exact hs (hp hi))).trans (h.block i hi hs)⟩
theorem Turned.grown (h : Turned S a w) {row : Option Nat} (hg : w.grownBy w' row) (hr : ∀ k, row = some k → k < a.heap.size → S k) : Turned S a w' :=
  ⟨hg.os.trans h.os, hg.tape.trans h.tape, hg.output.trans h.output, Nat.le_trans h.size hg.size,
   fun i hi hs => (hg.block i (Nat.lt_of_lt_of_le hi h.size) (fun e => hs (hr i e.symm hi))).trans (h.block i hi hs)⟩
theorem Turned.of_below {B : Nat} (h : Below B w w') (hB : w.heap.size ≤ B) (S : Nat → Prop) : Turned S w w' := ⟨h.os, h.tape, h.output, h.size, fun i hi _ => h.block i (by omega)⟩
theorem Turned.below {B : Nat} (h : Turned S w w') (hS : ∀ k, S k → B ≤ k) (hB : B ≤ w.heap.size) : Below B w w' :=
  ⟨h.os, h.tape, h.output, h.size, fun k hk => h.block k (by omega) (fun hs => by have := hS k hs; omega)⟩
theorem Turned.cell (h : Turned S w w') {p : Addr} (hp : p.block < w.heap.size) (hs : ¬ S p.block) : w'.cell? p = w.cell? p := World.cell?_of_block (h.block _ hp hs)
theorem Turned.frozen (h : Turned S w w') {p : Addr} (hp : p.block < w.heap.size) (hs : ¬ S p.block) : w'.frozen? p = w.frozen? p := World.frozen?_of_block (h.block _ hp hs)
end

/-- Words as a row of memory has them; numbers likewise. -/
def Us (l : List (BitVec 32)) : List Value := l.map fun x => .int .u32 (U x)
def Is (l : List Int) : List Value := l.map fun x => .int .i64 x
theorem Us_length (l : List (BitVec 32)) : (Us l).length = l.length := by simp [Us]
theorem Is_length (l : List Int) : (Is l).length = l.length := by simp [Is]
/-- A word of a list, a number of a list (0 beyond its end). -/
def wd (l : List (BitVec 32)) (i : Nat) : BitVec 32 := l.getD i 0#32
def nm (l : List Int) (i : Nat) : Int := l.getD i 0
theorem Us_get (l : List (BitVec 32)) (i : Nat) (h : i < l.length) : (Us l)[i]? = some (.int .u32 (U (wd l i))) := by
  simp [Us, wd, h]
theorem Is_get (l : List Int) (i : Nat) (h : i < l.length) : (Is l)[i]? = some (.int .i64 (nm l i)) := by
  simp [Is, nm, h]
theorem Us_set (l : List (BitVec 32)) (i : Nat) (x : BitVec 32) : (Us l).set i (.int .u32 (U x)) = Us (l.set i x) := by
  simp [Us, List.map_set]
theorem Is_set (l : List Int) (i : Nat) (x : Int) : (Is l).set i (.int .i64 x) = Is (l.set i x) := by
  simp [Is, List.map_set]
theorem Us_append (l m : List (BitVec 32)) : Us (l ++ m) = Us l ++ Us m := by simp [Us]
theorem Us_one (l : List (BitVec 32)) : ∀ u ∈ Us l, u.oneCell' = true := by
  intro u hu; simp [Us] at hu; obtain ⟨x, _, rfl⟩ := hu; rfl
theorem Is_one (l : List Int) : ∀ u ∈ Is l, u.oneCell' = true := by
  intro u hu; simp [Is] at hu; obtain ⟨x, _, rfl⟩ := hu; rfl

/-- What a call made: a slice of its own that has the cells xs; nothing that was there has turned. -/
def Fresh (w : World) (t : TypeId) (xs : List Value) (e : Ending) (w' : World) : Prop :=
  ∃ g cap rest, e = .returned (.slice (some ⟨g, 0, none⟩) xs.length cap) ∧ At w' g t (xs ++ rest) ∧ (xs ++ rest).length = cap ∧ cap ≤ maxLen ∧ w.heap.size ≤ g ∧ Below w.heap.size w w'

theorem At.of_own {w : World} {base n g cap : Nat} {t : TypeId} {xs : List Value} (h : w.ownsRow base t 1 (.slice (some ⟨g, 0, none⟩) n cap) n xs) (hn : 0 < n) :
    ∃ rest, At w g t (xs ++ rest) ∧ (xs ++ rest).length = cap ∧ cap ≤ maxLen ∧ base ≤ g ∧ xs.length = n := by
  obtain ⟨hl, h⟩ := h
  rcases h with ⟨_, h⟩ | ⟨g', cap', cur, e, hb, hg, hc, hm, hs, ht⟩
  · omega
  · injection e with e1 _ e2
    injection e1 with e1
    injection e1 with e1
    subst e1 e2
    refine ⟨cur.toList.drop n, ?_, ?_, hm, hb, by omega⟩
    · unfold At
      have e : xs ++ cur.toList.drop n = cur.toList := by
        rw [← ht, Nat.mul_one, List.take_append_drop]
      rw [e]
      simpa using hg
    · rw [List.length_append, List.length_drop, hl]
      simp only [Array.length_toList]
      omega
theorem At.own {w : World} {base n g cap : Nat} {t : TypeId} {xs rest : List Value} (h : At w g t (xs ++ rest)) (hb : base ≤ g) (hl : xs.length = n) (hc : (xs ++ rest).length = cap) (hm : cap ≤ maxLen) :
    w.ownsRow base t 1 (.slice (some ⟨g, 0, none⟩) n cap) n xs := by
  refine ⟨by omega, .inr ⟨g, cap, (xs ++ rest).toArray, rfl, hb, h, by rw [← hc, List.length_append]; omega, hm, by simpa using hc, ?_⟩⟩
  subst hl
  simp

end Go.Proofs.Ytfpfcmgcfbkolaa
