/- A struct or an array by value at the head of a block, whatever its type: loaded and stored whole at one operation; both blocks of a call that has a boxed argument and a boxed result. -/
import Derived.Test.YtfckgfimmoinmaaCfiRA
import Derived.Deep.MidRow
namespace Go.Proofs.Ytfckgfimmoinmaa
open Go.RowKit Bm

theorem At.setCells {g : Nat} {t : TypeId} {post : List Value} : ∀ (ys pre xs : List Value) {w : World}, At w g t (pre ++ (xs ++ post)) → ys.length = xs.length → At (w.setCells g pre.length ys) g t (pre ++ (ys ++ post))
  | [], pre, xs, w, h, hl => by
    obtain rfl : xs = [] := List.eq_nil_of_length_eq_zero hl.symm
    exact h
  | v :: r, pre, [], w, h, hl => by simp at hl
  | v :: r, pre, x :: xr, w, h, hl => by
    have h1 : At (w.setCell ⟨g, pre.length, none⟩ v) g t ((pre ++ [v]) ++ (xr ++ post)) := by
      refine (h.put pre.length v).as ?_
      rw [List.set_append_right _ _ (Nat.le_refl _), Nat.sub_self]
      simp
    have h2 := At.setCells r (pre ++ [v]) xr h1 (by simpa using hl)
    rw [List.length_append, List.length_singleton] at h2
    simpa [World.setCells] using h2
theorem turned_setCells (g : Nat) : ∀ (ys : List Value) (o : Nat) (w : World), Turned (Just g) w (w.setCells g o ys)
  | [], _, w => Turned.refl _ w
  | v :: r, o, w => ((Turned.refl (Just g) w).setCell (p := ⟨g, o, none⟩) (fun _ => rfl) v).trans (turned_setCells g r (o + 1) _)
theorem At.range {w : World} {g : Nat} {t : TypeId} {pre xs post : List Value} (h : At w g t (pre ++ (xs ++ post))) : w.rangeAt g pre.length xs := by
  intro j v hv
  rw [h.cell, List.getElem?_append_right (by omega), Nat.add_sub_cancel_left, List.getElem?_append_left (List.getElem?_eq_some_iff.1 hv).1, hv]
theorem At.there {w : World} {g : Nat} {t : TypeId} {pre xs post : List Value} (h : At w g t (pre ++ (xs ++ post))) : w.there g pre.length xs.length := by
  intro j hj
  exact ⟨h.range.isSome j hj, h.frozen _⟩

section
variable {o : Oper} {a : Go.Act} {w : World} {K : Go.Act → World → Prop} {Q : Exit → Go.Act → World → Prop} {g n : Nat} {t ty : TypeId} {xs ys post cs : List Value} {d : TypeDesc}
theorem wp_ldh (x : Operand) (ho : o.op = .load ty x) (hx : a.eval x = .pointer (some ⟨g, 0, none⟩)) (hu : Try.prog.underlying ty = some d) (hd : d.isRow = true) (hi : (Try.prog.info? ty).map (·.size) = some n) (hA : At w g t cs) (hc : cs = xs ++ post) (hn : xs.length = n)
    (h : K (a.put o.dst (.agg xs.toArray)) w) : o.wp Try.prog a w K Q := by
  subst hc
  exact wp_load_mid ty x ho g 0 hx xs d (At.range (pre := []) hA) hu hd (by rw [hi, hn]) h
theorem wp_sth (x y : Operand) (ho : o.op = .store ty x y) (hx : a.eval x = .pointer (some ⟨g, 0, none⟩)) (hy : a.eval y = .agg ys.toArray) (hi : (Try.prog.info? ty).map (·.size) = some n) (hA : At w g t cs) (hc : cs = xs ++ post) (hn : xs.length = n) (hn' : ys.length = n) (h1 : ∀ u ∈ ys, u.oneCell' = true)
    (h : ∀ w', At w' g t (ys ++ post) → Turned (Just g) w w' → K (a.put o.dst undef) w') : o.wp Try.prog a w K Q := by
  subst hc
  have ht : w.there g 0 ys.toArray.size := by
    have := At.there (pre := []) hA
    rw [hn] at this
    simpa [hn'] using this
  refine wp_store_mid ty x y ho g 0 ys.toArray hx hy ht (by simp [hi, hn']) (all_oneCell_toArray h1) ?_
  exact h _ (by simpa using At.setCells ys [] xs hA (by omega)) (by simpa using turned_setCells g ys 0 w)
end
theorem wpList_ldh {ops : Array Oper} {rest : List Oper} {o : Oper} {a : Go.Act} {w : World} {Q : Exit → Go.Act → World → Prop} {g n : Nat} {t ty : TypeId} {xs post cs : List Value} {d : TypeDesc} (x : Operand) (hgd : o.guard = none) (ho : o.op = .load ty x) (hx : a.eval x = .pointer (some ⟨g, 0, none⟩)) (hu : Try.prog.underlying ty = some d) (hd : d.isRow = true) (hi : (Try.prog.info? ty).map (·.size) = some n) (hA : At w g t cs) (hc : cs = xs ++ post) (hn : xs.length = n)
    (h : wpList Try.prog ops Q rest (a.put o.dst (.agg xs.toArray)) w) : wpList Try.prog ops Q (o :: rest) a w :=
  wpList_plain hgd fun _ hK => wp_ldh x ho hx hu hd hi hA hc hn (hK _ _ h)
theorem wpList_sth {ops : Array Oper} {rest : List Oper} {o : Oper} {a : Go.Act} {w : World} {Q : Exit → Go.Act → World → Prop} {g n : Nat} {t ty : TypeId} {xs ys post cs : List Value} (x y : Operand) (hgd : o.guard = none) (ho : o.op = .store ty x y) (hx : a.eval x = .pointer (some ⟨g, 0, none⟩)) (hy : a.eval y = .agg ys.toArray) (hi : (Try.prog.info? ty).map (·.size) = some n) (hA : At w g t cs) (hc : cs = xs ++ post) (hn : xs.length = n) (hn' : ys.length = n) (h1 : ∀ u ∈ ys, u.oneCell' = true)
    (h : ∀ w', At w' g t (ys ++ post) → Turned (Just g) w w' → wpList Try.prog ops Q rest (a.put o.dst undef) w') : wpList Try.prog ops Q (o :: rest) a w :=
  wpList_plain hgd fun _ hK => wp_sth x y ho hx hy hi hA hc hn hn' h1 fun w' hA' ht => hK _ _ (h w' hA' ht)

/-- Both blocks of a call: its boxed argument's cells, and its boxed result's. -/
structure Pair (T : TypeId) (w : World) (cs ds : List Value) (w1 : World) : Prop where
  a : At w1 w.heap.size T cs
  b : At w1 (w.heap.size + 1) T ds
  below : Below w.heap.size w w1
  size : w.heap.size + 2 ≤ w1.heap.size
theorem Pair.start (T : TypeId) (w : World) (cs ds : List Value) : Pair T w cs ds ((w.alloc (.cells cs.toArray T)).alloc (.cells ds.toArray T)) :=
  ⟨(At.news w _ _).alloc _, At.alloc_new _ _ _ (by rw [World.size_alloc]) rfl, below_two w _ _, by rw [World.size_alloc, World.size_alloc]; omega⟩
theorem Pair.call {T : TypeId} {w w1 w2 : World} {cs ds : List Value} (h : Pair T w cs ds w1) (hb : Below w1.heap.size w1 w2) : Pair T w cs ds w2 :=
  ⟨h.a.kept (Turned.of_below hb (Nat.le_refl _) NoBlock) (fun h => h), h.b.kept (Turned.of_below hb (Nat.le_refl _) NoBlock) (fun h => h), h.below.trans (hb.mono (by have := h.size; omega)), Nat.le_trans h.size hb.size⟩
theorem Pair.alloc {T : TypeId} {w w1 : World} {cs ds : List Value} (h : Pair T w cs ds w1) (o : Obj) : Pair T w cs ds (w1.alloc o) := h.call ((Below.refl _ w1).alloc (Nat.le_refl _) o)
theorem Pair.drew {T : TypeId} {w w1 : World} {cs ds : List Value} (h : Pair T w cs ds w1) : Pair T w cs ds w1.drew := h.call ((Below.refl _ w1).drew)
theorem Pair.sta {T : TypeId} {w w1 w2 : World} {cs cs' ds : List Value} (h : Pair T w cs ds w1) (hA : At w2 w.heap.size T cs') (t : Turned (Just w.heap.size) w1 w2) : Pair T w cs' ds w2 :=
  ⟨hA, h.b.kept t (by unfold Just; omega), h.below.trans (t.below (fun i hi => by unfold Just at hi; omega) (by have := h.size; omega)), Nat.le_trans h.size t.size⟩
theorem Pair.stb {T : TypeId} {w w1 w2 : World} {cs ds ds' : List Value} (h : Pair T w cs ds w1) (hB : At w2 (w.heap.size + 1) T ds') (t : Turned (Just (w.heap.size + 1)) w1 w2) : Pair T w cs ds' w2 :=
  ⟨h.a.kept t (by unfold Just; omega), hB, h.below.trans (t.below (fun i hi => by unfold Just at hi; omega) (by have := h.size; omega)), Nat.le_trans h.size t.size⟩
/-- Another block, made since, was written. -/
theorem Pair.far {T : TypeId} {w w1 w2 : World} {cs ds : List Value} (h : Pair T w cs ds w1) {P : Nat} (hP : w.heap.size + 2 ≤ P) (t : Turned (Just P) w1 w2) : Pair T w cs ds w2 :=
  ⟨h.a.kept t (by unfold Just; omega), h.b.kept t (by unfold Just; omega), h.below.trans (t.below (fun i hi => by unfold Just at hi; omega) (by have := h.size; omega)), Nat.le_trans h.size t.size⟩
end Go.Proofs.Ytfckgfimmoinmaa
