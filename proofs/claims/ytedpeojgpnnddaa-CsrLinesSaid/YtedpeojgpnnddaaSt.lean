/- Structs by value, of any type: in a variable of one's own, stored whole, loaded whole, as a result out of its variable. -/
import Derived.Test.YtedpeojgpnnddaaKd
import Derived.Test.YtedpeojgpnnddaaSEq
namespace Go.Proofs.Ytedpeojgpnnddaa
open Go.RowKit Bm

theorem At.keep {w w' : World} {b : Nat} {t : TypeId} {cs : List Value} (h : At w b t cs) (hB : Below w.heap.size w w') : At w' b t cs := h.kept (Turned.of_below hB (Nat.le_refl _) NoBlock) (fun h => h)
/-- The result of a function out of its variable; beside another result. -/
theorem res_S1 {P : Program} {fn : Func} {i : Tmp} {T : TypeId} {fs : Array Field} {cs : List Value} {n : Nat} (h : fn.results = #[.cell i T]) (hu : P.underlying T = some (.struct fs)) (hi : (P.info? T).map (·.size) = some n) (hn : cs.length = n) (tmps : Array Value) {w : World} {g : Nat}
    (hp : tmps.getD i undef = .pointer (some ⟨g, 0, none⟩)) (hA : At w g T cs) : (results fn tmps).run P w = .ok (.agg cs.toArray) w := by
  have hp' : tmps[i]?.getD undef = .pointer (some ⟨g, 0, none⟩) := by simpa using hp
  simp [results, h, hp', asAddr, run_loadVar_row (P := P) w g T T cs.toArray (0, 0) _ hA hu rfl (by rw [hi]; simp [hn])]
theorem res_S2 {P : Program} {fn : Func} {i j : Tmp} {T : TypeId} {fs : Array Field} {cs : List Value} {n : Nat} {v : Value} (h : fn.results = #[.cell i T, .tmp j]) (hu : P.underlying T = some (.struct fs)) (hi : (P.info? T).map (·.size) = some n) (hn : cs.length = n) (tmps : Array Value) {w : World} {g : Nat}
    (hp : tmps.getD i undef = .pointer (some ⟨g, 0, none⟩)) (hq : tmps.getD j undef = v) (hA : At w g T cs) : (results fn tmps).run P w = .ok (.tuple #[.agg cs.toArray, v]) w := by
  have hp' : tmps[i]?.getD undef = .pointer (some ⟨g, 0, none⟩) := by simpa using hp
  have hq' : tmps[j]?.getD undef = v := by simpa using hq
  simp [results, h, hp', hq', asAddr, run_loadVar_row (P := P) w g T T cs.toArray (0, 0) _ hA hu rfl (by rw [hi]; simp [hn])]
section
variable {P : Program} {ops : Array Oper} {rest : List Oper} {o : Oper} {a : Go.Act} {w : World} {Q : Exit → Go.Act → World → Prop}
/-- A struct stored whole into a variable that has just been laid. -/
theorem wpList_newS {n : Nat} (T : TypeId) (z v : List Value) (W : World) (x y : Operand) (hgd : o.guard = none) (ho : o.op = .store T x y) (hy : a.eval y = .agg v.toArray) (hx : a.eval x = .pointer (some ⟨W.heap.size, 0, none⟩)) (hw : w = W.alloc (.cells z.toArray T)) (hi : (P.info? T).map (·.size) = some n) (hz : z.length = n) (hv : v.length = n) (h1 : ∀ u ∈ v, u.oneCell' = true)
    (h : ∀ w', At w' W.heap.size T v → Below W.heap.size W w' → wpList P ops Q rest (a.put o.dst undef) w') : wpList P ops Q (o :: rest) a w := by
  subst hw
  refine wpList_stm (xs := z) (pre := []) (post := []) x y hgd ho hx hy hi hz hv h1 rfl (by simp) (At.news W T z) fun w' hA hT => ?_
  rw [List.nil_append, List.append_nil] at hA
  exact h w' hA (((Below.refl _ W).alloc (Nat.le_refl _) _).trans (hT.below (B := W.heap.size) (fun k hk => by unfold Just at hk; omega) (by simp)))
/-- A struct stored whole into a variable that stands at g. -/
theorem wpList_stS {n : Nat} {T : TypeId} {g : Nat} {z : List Value} (v : List Value) (x y : Operand) (hA : At w g T z) (hgd : o.guard = none) (ho : o.op = .store T x y) (hy : a.eval y = .agg v.toArray) (hx : a.eval x = .pointer (some ⟨g, 0, none⟩)) (hi : (P.info? T).map (·.size) = some n) (hz : z.length = n) (hv : v.length = n) (h1 : ∀ u ∈ v, u.oneCell' = true)
    (h : ∀ w', At w' g T v → Turned (Just g) w w' → wpList P ops Q rest (a.put o.dst undef) w') : wpList P ops Q (o :: rest) a w := by
  refine wpList_stm (xs := z) (pre := []) (post := []) x y hgd ho hx hy hi hz hv h1 rfl (by simp) hA fun w' hA hT => ?_
  rw [List.nil_append, List.append_nil] at hA
  exact h w' hA hT
/-- A struct loaded whole out of its variable. -/
theorem wpList_ldS {n : Nat} {T : TypeId} {g : Nat} {d : TypeDesc} (v : List Value) (x : Operand) (hA : At w g T v) (hw : Region.wanted o (yielded ops a.tmps) = true) (ho : o.op = .load T x) (hx : a.eval x = .pointer (some ⟨g, 0, none⟩)) (hu : P.underlying T = some d) (hd : d.isRow = true) (hi : (P.info? T).map (·.size) = some n) (hn : v.length = n)
    (h : wpList P ops Q rest (a.put o.dst (.agg v.toArray)) w) : wpList P ops Q (o :: rest) a w :=
  wpList_ldw x hw ho hx hu hd hi hn hA.rng0 h
end
end Go.Proofs.Ytedpeojgpnnddaa
