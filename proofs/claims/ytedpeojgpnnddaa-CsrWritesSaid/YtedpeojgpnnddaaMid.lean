/- A struct or an array by value anywhere in a block: loaded and stored whole at one operation. | A struct or an array by value loaded and stored whole, within a round of a range over a function. -/
import Derived.Test.YtedpeojgpnnddaaBitsMem
import Derived.Deep.MidRow
import Derived.Deep.WholeRow
import Derived.Lib.Hide
import Derived.RangeFuncNested
import Derived.Test.YtedpeojgpnnddaaIn
namespace Go.Proofs.Ytedpeojgpnnddaa
open Go.RowKit Bm

theorem below_two (w : World) (a b : Obj) : Below w.heap.size w ((w.alloc a).alloc b) := ((Below.refl _ w).alloc (Nat.le_refl _) a).alloc (by rw [World.size_alloc]; omega) b
theorem At.setCells {g : Nat} {t : TypeId} {post : List Value} : ∀ (ys pre xs : List Value) {w : World}, At w g t (pre ++ (xs ++ post)) → ys.length = xs.length → At (w.setCells g pre.length ys) g t (pre ++ (ys ++ post))
  | [], pre, xs, w, h, hl => by
    obtain rfl : xs = [] := List.eq_nil_of_length_eq_zero hl.symm
    exact h
  | v :: r, pre, [], w, h, hl => by simp at hl
  | v :: r, pre, x :: xr, w, h, hl => by
    have h1 : At (w.setCell ⟨g, pre.length, none⟩ v) g t ((pre ++ [v]) ++ (xr ++ post)) := by
      refine (h.put pre.length v).as ?_
      rw [List.set_append_right _ _ (Nat.le_refl _), Nat.sub_self]
      simp
    have h2 := At.setCells r (pre ++ [v]) xr h1 (by simpa using hl)
    rw [List.length_append, List.length_singleton] at h2
    simpa [World.setCells] using h2
theorem turned_setCells (g : Nat) : ∀ (ys : List Value) (o : Nat) (w : World), Turned (Just g) w (w.setCells g o ys)
  | [], _, w => Turned.refl _ w
  | v :: r, o, w => ((Turned.refl (Just g) w).setCell (p := ⟨g, o, none⟩) (fun _ => rfl) v).trans (turned_setCells g r (o + 1) _)
theorem At.range {w : World} {g : Nat} {t : TypeId} {pre xs post : List Value} (h : At w g t (pre ++ (xs ++ post))) : w.rangeAt g pre.length xs := by
  intro j v hv
  rw [h.cell, List.getElem?_append_right (by omega), Nat.add_sub_cancel_left, List.getElem?_append_left (List.getElem?_eq_some_iff.1 hv).1, hv]
theorem At.there {w : World} {g : Nat} {t : TypeId} {pre xs post : List Value} (h : At w g t (pre ++ (xs ++ post))) : w.there g pre.length xs.length := by
  intro j hj
  exact ⟨h.range.isSome j hj, h.frozen _⟩
theorem one_all {ys : List Value} (h : ∀ u ∈ ys, u.oneCell' = true) : ys.toArray.all (·.oneCell') = true := by simpa using h

section
variable {P : Program} {ops : Array Oper} {rest : List Oper} {o : Oper} {a : Go.Act} {w : World} {Q : Exit → Go.Act → World → Prop} {g off n : Nat} {t ty : TypeId} {pre xs ys post cs : List Value} {d : TypeDesc}
/-- A row of cells that is there, loaded whole (wherever its block comes from). -/
theorem wpList_ldr (x : Operand) (hgd : o.guard = none) (ho : o.op = .load ty x) (hx : a.eval x = .pointer (some ⟨g, off, none⟩)) (hu : P.underlying ty = some d) (hd : d.isRow = true) (hi : (P.info? ty).map (·.size) = some n) (hn : xs.length = n) (hc : w.rangeAt g off xs)
    (h : wpList P ops Q rest (a.put o.dst (.agg xs.toArray)) w) : wpList P ops Q (o :: rest) a w :=
  wpList_load_mid hgd ty x ho g off hx xs d hc hu hd (by rw [hi, hn]) h
theorem wpList_ldm (x : Operand) (hgd : o.guard = none) (ho : o.op = .load ty x) (hx : a.eval x = .pointer (some ⟨g, off, none⟩)) (hu : P.underlying ty = some d) (hd : d.isRow = true) (hi : (P.info? ty).map (·.size) = some n) (hn : xs.length = n) (hp : pre.length = off) (hc : cs = pre ++ (xs ++ post)) (hA : At w g t cs)
    (h : wpList P ops Q rest (a.put o.dst (.agg xs.toArray)) w) : wpList P ops Q (o :: rest) a w := by
  subst hc hp
  exact wpList_load_mid hgd ty x ho g _ hx xs d hA.range hu hd (by rw [hi, hn]) h
theorem wpList_stm (x y : Operand) (hgd : o.guard = none) (ho : o.op = .store ty x y) (hx : a.eval x = .pointer (some ⟨g, off, none⟩)) (hy : a.eval y = .agg ys.toArray) (hi : (P.info? ty).map (·.size) = some n) (hn : xs.length = n) (hn' : ys.length = n) (h1 : ∀ u ∈ ys, u.oneCell' = true) (hp : pre.length = off) (hc : cs = pre ++ (xs ++ post)) (hA : At w g t cs)
    (h : ∀ w', At w' g t (pre ++ (ys ++ post)) → Turned (Just g) w w' → wpList P ops Q rest (a.put o.dst undef) w') : wpList P ops Q (o :: rest) a w := by
  subst hc hp
  have ht : w.there g pre.length ys.toArray.size := by
    have := hA.there
    rw [hn] at this
    simpa [hn'] using this
  refine wpList_store_mid hgd ty x y ho g pre.length ys.toArray hx hy ht (by simp [hi, hn']) (one_all h1) ?_
  exact h _ (At.setCells ys pre xs hA (by omega)) (turned_setCells g ys _ w)
end

/-! ### Blocks that a step keeps -/
/-- The blocks of K are as they were. -/
def Keeps (K : Nat → Prop) (w w' : World) : Prop := ∀ k, K k → w'.heap[k]? = w.heap[k]?
theorem Keeps.trans {K : Nat → Prop} {a b c : World} (h : Keeps K a b) (k : Keeps K b c) : Keeps K a c := fun i hi => (k i hi).trans (h i hi)
theorem Keeps.refl (K : Nat → Prop) (w : World) : Keeps K w w := fun _ _ => rfl
theorem Keeps.put {K : Nat → Prop} {w : World} (hK : ∀ k, K k → k < w.heap.size) (W : World) (l : Nat) (o o' : Obj) (hl : w.heap.size ≤ l) (_ : W.heap[l]? = some o) (_ : o.isCells = false) (_ : o.isWalk = false) : Keeps K W (W.putObj l o') := fun k hk => by
  have := hK k hk
  exact World.putObj_heap_other (by omega)
theorem Turned.keeps {S K : Nat → Prop} {w w' : World} (h : Turned S w w') (hK : ∀ k, K k → k < w.heap.size ∧ ¬ S k) : Keeps K w w' := fun k hk => h.block k (hK k hk).1 (hK k hk).2
theorem Keeps.at_ {K : Nat → Prop} {w w' : World} {b : Nat} {t : TypeId} {cs : List Value} (h : Keeps K w w') (hb : K b) (hA : At w b t cs) : At w' b t cs := (h b hb).trans hA
/-- What a round leaves that turned just cells: the blocks that hold none are as they were. -/
theorem Turned.from {S : Nat → Prop} {w w' : World} (h : Turned S w w') (B : Nat) (hS : ∀ k, S k → k < B) : KeepsFrom B w w' :=
  ⟨h.size, fun k o hk h0 _ => (h.block k (Array.getElem?_eq_some_iff.1 h0).1 (fun hs => by have := hS k hs; omega)).trans h0⟩
theorem Turned.own {β : Type} {S : Nat → Prop} {w : World} {B : Nat} (hB : w.heap.size ≤ B) : OwnFrom B (fun (_ : β) W => Turned S w W) :=
  fun _ _ _ _ hs hg hr => hs.grown hg (fun k e h => by have := (hr k e).1; omega)
theorem At.own_from {β : Type} {B g : Nat} {t : TypeId} {f : β → List Value} : OwnFrom B (fun s W => At W g t (f s)) :=
  fun _ _ _ _ hs hg hr => (hg.block g hs.lt (fun e => by
    obtain ⟨_, o, ho, hc⟩ := hr g e.symm
    have hs' : _ = _ := hs
    rw [hs'] at ho
    cases ho
    cases hc)).trans hs
theorem size_own_from {β : Type} (B N : Nat) : OwnFrom B (fun (_ : β) W => N ≤ W.heap.size) := fun _ _ _ _ hs hg _ => Nat.le_trans hs hg.size
theorem At.stay {w w' : World} {g B : Nat} {t : TypeId} {cs : List Value} {row : Option Nat} (hs : At w g t cs) (hg : w.grownBy w' row) (hr : ∀ r, row = some r → B ≤ r ∧ ∃ o : Obj, w.heap[r]? = some o ∧ o.isCells = false) : At w' g t cs :=
  At.own_from (β := Unit) (f := fun _ => cs) (B := B) () w w' row hs hg hr

/-! ### Rows of elements that are several cells wide -/
theorem own_of_at {w : World} {base g n cap k : Nat} {t : TypeId} {xs rest : List Value} (h : At w g t (xs ++ rest)) (hb : base ≤ g) (hl : xs.length = n * k) (hc : (xs ++ rest).length = cap * k) (hn : n ≤ cap) (hm : cap ≤ maxLen) :
    w.ownsRow base t k (.slice (some ⟨g, 0, none⟩) n cap) n xs :=
  ⟨hl, .inr ⟨g, cap, (xs ++ rest).toArray, rfl, hb, h, hn, hm, by simpa using hc, by simp [← hl]⟩⟩
theorem at_of_own {w : World} {base g n cap k : Nat} {t : TypeId} {xs : List Value} (h : w.ownsRow base t k (.slice (some ⟨g, 0, none⟩) n cap) n xs) :
    ∃ rest, At w g t (xs ++ rest) ∧ (xs ++ rest).length = cap * k ∧ n ≤ cap ∧ cap ≤ maxLen ∧ base ≤ g := by
  obtain ⟨hl, h⟩ := h
  rcases h with ⟨h, _⟩ | ⟨g', cap', cur, e, hb, hg, hc, hm, hs, ht⟩
  · cases h
  · injection e with e1 _ e2
    injection e1 with e1
    injection e1 with e1
    subst e1 e2
    have e : xs ++ cur.toList.drop (n * k) = cur.toList := by rw [← ht, List.take_append_drop]
    refine ⟨cur.toList.drop (n * k), ?_, ?_, hc, hm, hb⟩
    · unfold At
      rw [e]
      simpa using hg
    · rw [e]
      simpa using hs
/-- The walk stops here: what is left is hidden. -/
theorem halt_here {P : Program} {ops : Array Oper} {Q : Exit → Go.Act → World → Prop} {l : List Oper} {a : Go.Act} {w : World} (h : Hid (wpList P ops Q l a w)) : wpList P ops Q l a w := h.out
end Go.Proofs.Ytedpeojgpnnddaa

namespace Go.Proofs.Ytedpeojgpnnddaa
open Go.RowKit Bm
section
variable {P : Program} {ops : Array Oper} {rest : List Oper} {o : Oper} {a : Go.Act} {w : World} {Q : Exit → Go.Act → World → Prop} {g off n m l : Nat} {t ty : TypeId} {pre xs ys post cs : List Value} {d : TypeDesc}
theorem wpListIn_ldr (x : Operand) (hgd : o.guard = none) (ho : o.op = .load ty x) (hx : a.eval x = .pointer (some ⟨g, off, none⟩)) (hu : P.underlying ty = some d) (hd : d.isRow = true) (hi : (P.info? ty).map (·.size) = some n) (hn : xs.length = n) (hc : w.rangeAt g off xs)
    (h : wpListIn (Fence.wide.inRound l) m P ops Q rest (a.put o.dst (.agg xs.toArray)) w) : wpListIn (Fence.wide.inRound l) m P ops Q (o :: rest) a w :=
  wpListIn_plain hgd fun _ hK => oper_in (by unfold calmOper; rw [ho]) (wp_load_mid ty x ho g off hx xs d hc hu hd (by rw [hi, hn]) (hK _ _ h))
theorem wpListIn_stm (x y : Operand) (hgd : o.guard = none) (ho : o.op = .store ty x y) (hx : a.eval x = .pointer (some ⟨g, off, none⟩)) (hy : a.eval y = .agg ys.toArray) (hi : (P.info? ty).map (·.size) = some n) (hn : xs.length = n) (hn' : ys.length = n) (h1 : ∀ u ∈ ys, u.oneCell' = true) (hp : pre.length = off) (hc : cs = pre ++ (xs ++ post)) (hA : At w g t cs)
    (h : ∀ w', At w' g t (pre ++ (ys ++ post)) → Turned (Just g) w w' → wpListIn (Fence.wide.inRound l) m P ops Q rest (a.put o.dst undef) w') : wpListIn (Fence.wide.inRound l) m P ops Q (o :: rest) a w := by
  subst hc hp
  have ht : w.there g pre.length ys.toArray.size := by
    have := hA.there
    rw [hn] at this
    simpa [hn'] using this
  refine wpListIn_plain hgd fun _ hK => oper_in (by unfold calmOper; rw [ho]) (wp_store_mid ty x y ho g pre.length ys.toArray hx hy ht (by simp [hi, hn']) (one_all h1) (hK _ _ ?_))
  exact h _ (At.setCells ys pre xs hA (by omega)) (turned_setCells g ys _ w)
theorem wpListIn_ldr_w (x : Operand) (hgd : o.guard = none) (ho : o.op = .load ty x) (hx : a.eval x = .pointer (some ⟨g, off, none⟩)) (hu : P.underlying ty = some d) (hd : d.isRow = true) (hi : (P.info? ty).map (·.size) = some n) (hn : xs.length = n) (hc : w.rangeAt g off xs)
    (h : wpListIn Fence.wide m P ops Q rest (a.put o.dst (.agg xs.toArray)) w) : wpListIn Fence.wide m P ops Q (o :: rest) a w :=
  wpListIn_plain hgd fun _ hK => oper_wide (wp_load_mid ty x ho g off hx xs d hc hu hd (by rw [hi, hn]) (hK _ _ h))
theorem wpListIn_stm_w (x y : Operand) (hgd : o.guard = none) (ho : o.op = .store ty x y) (hx : a.eval x = .pointer (some ⟨g, off, none⟩)) (hy : a.eval y = .agg ys.toArray) (hi : (P.info? ty).map (·.size) = some n) (hn : xs.length = n) (hn' : ys.length = n) (h1 : ∀ u ∈ ys, u.oneCell' = true) (hp : pre.length = off) (hc : cs = pre ++ (xs ++ post)) (hA : At w g t cs)
    (h : ∀ w', At w' g t (pre ++ (ys ++ post)) → Turned (Just g) w w' → wpListIn Fence.wide m P ops Q rest (a.put o.dst undef) w') : wpListIn Fence.wide m P ops Q (o :: rest) a w := by
  subst hc hp
  have ht : w.there g pre.length ys.toArray.size := by
    have := hA.there
    rw [hn] at this
    simpa [hn'] using this
  refine wpListIn_plain hgd fun _ hK => oper_wide (wp_store_mid ty x y ho g pre.length ys.toArray hx hy ht (by simp [hi, hn']) (one_all h1) (hK _ _ ?_))
  exact h _ (At.setCells ys pre xs hA (by omega)) (turned_setCells g ys _ w)
end
end Go.Proofs.Ytedpeojgpnnddaa
