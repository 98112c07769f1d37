/- A small map of numbers to parts (layer decode): it is laid entry by entry, and ranged over in whatever order. -/
import Derived.Test.YtdloaeifiohefaaDoorDecM
import Derived.Maps.RangeWalk
import Derived.BigRegion
import Derived.BigQuiet
import Derived.Deep.QuietTactic
import Derived.Deep.DeepCutAuto
import Derived.Deep.LoopGhost
import Derived.Deep.Light
namespace Go.Proofs.YtdloaeifiohefaaDoor
open Go.RowKit Go.Maps Bm Go.ChangeMaps

theorem keyedP : Keyed Tryd.prog 3 := int_keyed Tryd.underlying3
def ptC (p : PtM) : List Value := [.int .i64 p.f, .int .i64 p.n, .int .i64 p.t]
def ptV (p : PtM) : Value := .agg #[.int .i64 p.f, .int .i64 p.n, .int .i64 p.t]
def ptN (ps : List PtM) (j : Nat) : PtM := ps.getD j default
theorem ptN_get {ps : List PtM} {j : Nat} (h : j < ps.length) : ps[j]? = some (ptN ps j) := by simp [ptN, h]
theorem ptN_mem {ps : List PtM} {j : Nat} (h : j < ps.length) : ptN ps j ∈ ps := List.mem_of_getElem? (ptN_get h)
def ptE (p : PtM) (k : Nat) : MapEntry := { key := .int .i64 p.a, val := ptV p, born := k }
def esL : List PtM → Nat → List MapEntry
  | [], _ => []
  | p :: ps, k => ptE p k :: esL ps (k + 1)
theorem esL_len : ∀ (ps : List PtM) (k : Nat), (esL ps k).length = ps.length
  | [], _ => rfl
  | p :: ps, k => by simp [esL, esL_len ps]
theorem esL_snoc (p : PtM) : ∀ (ps : List PtM) (k : Nat), esL (ps ++ [p]) k = esL ps k ++ [ptE p (k + ps.length)]
  | [], k => rfl
  | q :: ps, k => by
    simp only [List.cons_append, esL, esL_snoc p ps (k + 1), List.length_cons]
    rw [show k + 1 + ps.length = k + (ps.length + 1) by omega]
theorem esL_mem : ∀ {ps : List PtM} {k : Nat} {e : MapEntry}, e ∈ esL ps k → ∃ j, j < ps.length ∧ e = ptE (ptN ps j) (k + j)
  | [], _, _, h => by simp [esL] at h
  | p :: ps, k, e, h => by
    rcases List.mem_cons.1 h with rfl | h
    · exact ⟨0, by simp, rfl⟩
    · obtain ⟨j, hj, rfl⟩ := esL_mem h
      exact ⟨j + 1, by simp; exact hj, by rw [show k + 1 + j = k + (j + 1) by omega]; rfl⟩
theorem esL_of : ∀ {ps : List PtM} {k j : Nat}, j < ps.length → ptE (ptN ps j) (k + j) ∈ esL ps k
  | p :: ps, k, 0, _ => List.mem_cons_self
  | p :: ps, k, j + 1, h => by
    have := esL_of (ps := ps) (k := k + 1) (j := j) (by simpa using h)
    rw [show k + 1 + j = k + (j + 1) by omega] at this
    exact List.mem_cons_of_mem _ this
theorem esL_born : ∀ (ps : List PtM) (k : Nat), (esL ps k).map (·.born) = List.range' k ps.length
  | [], _ => rfl
  | p :: ps, k => by simp only [esL, List.map_cons, esL_born ps, List.length_cons, List.range'_succ]; rfl

/-- Block b is a map that has just these entries, laid in this order. -/
def PMap (w : World) (b : Nat) (ps : List PtM) : Prop := w.heap[b]? = some (.map (esL ps 0).toArray ps.length)
theorem PMap.news (w : World) : PMap (w.alloc (.map #[] 0)) w.heap.size [] := heap_alloc_new w _
theorem PMap.lt {w : World} {b : Nat} {ps : List PtM} (h : PMap w b ps) : b < w.heap.size := (Array.getElem?_eq_some_iff.1 h).1
theorem PMap.kept {w w' : World} {b : Nat} {ps : List PtM} (h : PMap w b ps) {S : Nat → Prop} (t : Turned S w w') (hb : ¬ S b) : PMap w' b ps := (t.block b h.lt hb).trans h
theorem PMap.ne {w : World} {b : Nat} {ps : List PtM} (h : PMap w b ps) {k : Nat} {t : TypeId} {cs : List Value} (hA : At w k t cs) : b ≠ k := by
  rintro rfl
  unfold At at hA
  unfold PMap at h
  rw [h] at hA
  cases hA
theorem setBlock_turned {w : World} {b : Nat} {o o' : Obj} (_ : w.heap[b]? = some o) : Turned (Just b) w (setBlock w b o') :=
  ⟨rfl, rfl, rfl, by simp [setBlock], fun k _ hk => by
    have : k ≠ b := hk
    simp [setBlock, Ne.symm this]⟩
theorem setBlock_at {w : World} {b : Nat} {o : Obj} (hb : w.heap[b]? = some o) (o' : Obj) : (setBlock w b o').heap[b]? = some o' := by
  have := (Array.getElem?_eq_some_iff.1 hb).1
  simp [setBlock, this]

theorem wfP (p : PtM) (h : p.a < 1000) : (Lit.int .i64 (p.a : Int)).wf = true := by
  simp [Lit.wf, IntKind.signed, IntKind.bits, IntKind.min, IntKind.max]; omega
theorem keyP (p : PtM) (h : p.a < 1000) : keyOf Tryd.prog 3 (.int .i64 p.a) = some (.int .i64 p.a) := keyOf_int_mk Tryd.underlying3 (wfP p h)
/-- One more entry. -/
theorem PMap.put {w : World} {b : Nat} {ps : List PtM} (h : PMap w b ps) (p : PtM) (ha : ∀ q ∈ ps, q.a < 1000 ∧ q.a ≠ p.a) (hp : p.a < 1000) :
    ∃ w', (Instr.mapUpdate 61 (.map (some b)) (.int .i64 p.a) (ptV p)).run Tryd.prog w = .ok () w' ∧ PMap w' b (ps ++ [p]) ∧ Turned (Just b) w w' := by
  unfold PMap at h
  have hk : ∀ e ∈ (esL ps 0), ∃ l, keyOf Tryd.prog 3 e.key = some l := fun e he => by
    obtain ⟨j, hj, rfl⟩ := esL_mem he
    exact ⟨_, keyP _ (ha _ (ptN_mem hj)).1⟩
  have hn : (Instr.findKey 3 (.int .i64 p.a) (esL ps 0)).run Tryd.prog w = .ok none w := by
    rcases keyedP.find w (keyP p hp) (esL ps 0) hk with ⟨h1, _⟩ | ⟨j, e, _, h2, h3⟩
    · exact h1
    · obtain ⟨i, hi, rfl⟩ := esL_mem (List.mem_of_getElem? h2)
      simp only [ptE, Value.int.injEq, true_and] at h3
      exact absurd (by omega) (ha _ (ptN_mem hi)).2
  refine ⟨setBlock w b (.map ((esL ps 0).toArray.push (ptE p ps.length)) (ps.length + 1)), ?_, ?_, setBlock_turned h⟩
  · simp [Instr.mapUpdate, run_underlying Tryd.underlying61, MapKept.run_getObj_map h, keyedP.check w _ (keyP p hp), hn, MapKept.run_setObj_map _ h, Result.andThen]
    rfl
  · unfold PMap
    rw [setBlock_at h, esL_snoc]
    simp [ptE]

/-- What a call hands back: a map of these entries, or none at all. -/
def PartsAt (w : World) (m : Option Nat) (ps : List PtM) : Prop := (m = none ∧ ps = []) ∨ ∃ b, m = some b ∧ PMap w b ps
/-- A range over it under way: the entries of these numbers have come, in this order. -/
structure RangeP (w : World) (m : Option Nat) (r : Nat) (ps : List PtM) (js : List Nat) : Prop where
  it : (m = none ∧ ps = [] ∧ w.heap[r]? = some (.mapIter none 0 #[] 0)) ∨ ∃ b c0, m = some b ∧ PMap w b ps ∧ w.heap[r]? = some (.mapIter (some b) ps.length js.toArray c0) ∧ ps.length ≤ c0
  nd : js.Nodup
  lt : ∀ j ∈ js, j < ps.length
theorem RangeP.rlt {w : World} {m : Option Nat} {r : Nat} {ps : List PtM} {js : List Nat} (h : RangeP w m r ps js) : r < w.heap.size := by
  rcases h.it with ⟨_, _, h⟩ | ⟨_, _, _, _, h, _⟩ <;> exact (Array.getElem?_eq_some_iff.1 h).1
theorem RangeP.rne {w : World} {m : Option Nat} {r : Nat} {ps : List PtM} {js : List Nat} (h : RangeP w m r ps js) {k : Nat} {t : TypeId} {cs : List Value} (hA : At w k t cs) : r ≠ k := by
  rintro rfl
  unfold At at hA
  rcases h.it with ⟨_, _, h⟩ | ⟨_, _, _, _, h, _⟩ <;> (rw [h] at hA; cases hA)
theorem RangeP.kept {w w' : World} {m : Option Nat} {r : Nat} {ps : List PtM} {js : List Nat} (h : RangeP w m r ps js) {S : Nat → Prop} (t : Turned S w w') (hr : ¬ S r) (hm : ∀ b, m = some b → ¬ S b) : RangeP w' m r ps js := by
  refine ⟨?_, h.nd, h.lt⟩
  have h2 := h.rlt
  rcases h.it with ⟨e1, e2, h1⟩ | ⟨b, c0, e1, h3, h1, h4⟩
  · exact .inl ⟨e1, e2, (t.block r h2 hr).trans h1⟩
  · exact .inr ⟨b, c0, e1, h3.kept t (hm b e1), (t.block r h2 hr).trans h1, h4⟩
/-- Neither the map nor the iterator is a row of cells. -/
theorem RangeP.mne {w : World} {m : Option Nat} {r : Nat} {ps : List PtM} {js : List Nat} (h : RangeP w m r ps js) {k : Nat} {t : TypeId} {cs : List Value} (hA : At w k t cs) : ∀ b, m = some b → b ≠ k := by
  intro b hb
  rcases h.it with ⟨e1, _, _⟩ | ⟨b', c0, e1, h3, _, _⟩
  · rw [e1] at hb; cases hb
  · rw [e1] at hb; cases hb; exact h3.ne hA
theorem RangeP.put {w w' : World} {m : Option Nat} {r : Nat} {ps : List PtM} {js : List Nat} (h : RangeP w m r ps js) {k : Nat} {t : TypeId} {cs : List Value} (hA : At w k t cs) (hT : Turned (Just k) w w') : RangeP w' m r ps js :=
  h.kept hT (h.rne hA) (h.mne hA)
theorem RangeP.below {w w' : World} {m : Option Nat} {r : Nat} {ps : List PtM} {js : List Nat} (h : RangeP w m r ps js) (hB : Below w.heap.size w w') : RangeP w' m r ps js :=
  h.kept (Turned.of_below hB (Nat.le_refl _) NoBlock) (fun h => h) (fun _ _ h => h)

theorem perm_range {n : Nat} {js : List Nat} (nd : js.Nodup) (lt : ∀ j ∈ js, j < n) (all : ∀ j, j < n → j ∈ js) : js.Perm (List.range n) := by
  rw [List.perm_iff_count]
  intro a
  rw [nd.count, List.nodup_range.count]
  by_cases h : a < n
  · rw [if_pos (all a h), if_pos (List.mem_range.2 h)]
  · rw [if_neg (fun h' => h (lt a h')), if_neg (fun h' => h (List.mem_range.1 h'))]
theorem pts_perm {ps : List PtM} {js : List Nat} (h : js.Perm (List.range ps.length)) : (js.map (ptN ps)).Perm ps := by
  have e : (List.range ps.length).map (ptN ps) = ps := by
    apply List.ext_getElem
    · simp
    · intro i h1 h2
      simp [ptN, h2]
  have := h.map (ptN ps)
  rwa [e] at this

/-- THE STEP. -/
theorem RangeP.next {w : World} {m : Option Nat} {r : Nat} {ps : List PtM} {js : List Nat} (h : RangeP w m r ps js) (ty : TypeId) :
    (js.Perm (List.range ps.length) ∧ (Instr.next (.pointer (some ⟨r, 0, none⟩)) false ty).run Tryd.prog w = .ok (.tuple #[.bool false]) w) ∨
    ∃ j w', j < ps.length ∧ j ∉ js ∧ (Instr.next (.pointer (some ⟨r, 0, none⟩)) false ty).run Tryd.prog w = .ok (.tuple #[.bool true, .int .i64 (ptN ps j).a, ptV (ptN ps j)]) w' ∧
      RangeP w' m r ps (js ++ [j]) ∧ Turned (Just r) w w' ∧ (Instr.entry (.pointer (some ⟨r, 0, none⟩))).run Tryd.prog w' = .ok (.tuple #[.int .i64 (ptN ps j).a, ptV (ptN ps j)]) w' := by
  rcases h.it with ⟨rfl, rfl, hr⟩ | ⟨b, c0, rfl, hb, hr, hc⟩
  · left
    have e : js = [] := List.eq_nil_iff_forall_not_mem.2 fun j hj => absurd (h.lt j hj) (by simp)
    subst e
    refine ⟨List.Perm.refl _, ?_⟩
    simp only [Instr.next, getObj, Sem.run_bind, Sem.run, hr, Result.andThen]
    rfl
  · have hb' := hb
    unfold PMap at hb
    have hold : ∀ x ∈ (esL ps 0).toArray.toList, x.born < ps.length := fun x hx => by
      obtain ⟨j, hj, rfl⟩ := esL_mem hx
      show 0 + j < _
      omega
    have hnod : ((esL ps 0).toArray.toList.map (·.born)).Nodup := by
      show ((esL ps 0).map (·.born)).Nodup
      rw [esL_born]
      exact List.nodup_range'
    rcases run_next_at (P := Tryd.prog) w ty r b ps.length c0 js.toArray (esL ps 0).toArray ps.length hr hb hold hc with ⟨h0, hrun⟩ | ⟨e, he, w1, hal, hrun⟩
    · left
      refine ⟨perm_range h.nd h.lt fun j hj => ?_, hrun⟩
      have := all_seen _ _ h0 (ptE (ptN ps j) (0 + j)) (esL_of hj)
      simp [ptE] at this
      exact this
    · right
      obtain ⟨hem, hes⟩ := mem_left he
      obtain ⟨j, hj, rfl⟩ := esL_mem hem
      have hjs : j ∉ js := by
        simp [ptE] at hes
        exact hes
      have hr1 : w1.heap[r]? = some (.mapIter (some b) ps.length js.toArray c0) := by rcases hal with rfl | rfl <;> exact hr
      have hb1 : w1.heap[b]? = some (.map (esL ps 0).toArray ps.length) := by rcases hal with rfl | rfl <;> exact hb
      have hne : b ≠ r := by
        rintro rfl
        rw [hb] at hr
        cases hr
      have hT : Turned (Just r) w1 (setBlock w1 r (.mapIter (some b) ps.length (js.toArray.push (ptE (ptN ps j) (0 + j)).born) ps.length)) := setBlock_turned hr1
      have hT0 : Turned (Just r) w (setBlock w1 r (.mapIter (some b) ps.length (js.toArray.push (ptE (ptN ps j) (0 + j)).born) ps.length)) := by
        rcases hal with rfl | rfl
        · exact hT
        · exact (Turned.refl _ w).drew.trans hT
      have hb2 := (hT.block b (Array.getElem?_eq_some_iff.1 hb1).1 hne).trans hb1
      have hr2 := setBlock_at hr1 (.mapIter (some b) ps.length (js.toArray.push (ptE (ptN ps j) (0 + j)).born) ps.length)
      refine ⟨j, _, hj, hjs, hrun, ⟨.inr ⟨b, ps.length, rfl, hb2, ?_, Nat.le_refl _⟩, ?_, ?_⟩, hT0, run_entry_at _ r b ps.length js.toArray (esL ps 0).toArray ps.length _ hr2 hb2 hem hnod⟩
      · rw [hr2]
        simp [ptE]
      · rw [List.nodup_append]
        refine ⟨h.nd, by simp, fun x hx y hy => ?_⟩
        simp only [List.mem_singleton] at hy
        rintro rfl
        exact hjs (hy ▸ hx)
      · intro i hi
        rcases List.mem_append.1 hi with hi | hi
        · exact h.lt i hi
        · simp only [List.mem_singleton] at hi
          omega

/-- HOW MANY ARE STILL TO COME, read off the world: for a loop's measure. -/
def leftP (w : World) (r n : Nat) : Nat := n - (w.iterSeen r).size
theorem RangeP.left_eq {w : World} {m : Option Nat} {r : Nat} {ps : List PtM} {js : List Nat} (h : RangeP w m r ps js) : leftP w r ps.length = ps.length - js.length := by
  unfold leftP World.iterSeen
  rcases h.it with ⟨_, rfl, h1⟩ | ⟨b, c0, _, _, h1, _⟩
  · simp
  · rw [h1]; simp
theorem nodup_le {n : Nat} {js : List Nat} (nd : js.Nodup) (lt : ∀ j ∈ js, j < n) : js.length ≤ n := by
  have h1 : (js.filter fun j => decide (j < n)) = js := List.filter_eq_self.2 fun j hj => by simpa using lt j hj
  have h2 : ((List.range n).filter fun j => js.contains j).Perm js := by
    rw [List.perm_iff_count]
    intro a
    rw [nd.count, List.Nodup.count (show ((List.range n).filter fun j => js.contains j).Nodup from List.nodup_range.filter _)]
    by_cases h : a ∈ js
    · rw [if_pos h, if_pos (by simp [h, lt a h])]
    · rw [if_neg h, if_neg (by simp [h])]
  rw [← h2.length_eq]
  have := List.length_filter_le (fun j => js.contains j) (List.range n)
  simpa using this

section
variable {ops : Array Oper} {rest : List Oper} {o : Oper} {a : Go.Act} {w : World} {Q : Exit → Go.Act → World → Prop} {m : Option Nat} {r : Nat} {ps : List PtM} {js : List Nat}
theorem wpList_insP (x y z : Operand) (b : Nat) (p : PtM) (hgd : o.guard = none) (ho : o.op = .insert 61 x y z) (hx : a.eval x = .map (some b)) (hy : a.eval y = .int .i64 p.a) (hz : a.eval z = ptV p) (h : PMap w b ps) (ha : ∀ q ∈ ps, q.a < 1000 ∧ q.a ≠ p.a) (hp : p.a < 1000)
    (hK : ∀ w', PMap w' b (ps ++ [p]) → Turned (Just b) w w' → wpList Tryd.prog ops Q rest (a.put o.dst undef) w') : wpList Tryd.prog ops Q (o :: rest) a w :=
  wpList_plain hgd fun K hK' => by
    obtain ⟨w', hrun, r1, r2⟩ := h.put p ha hp
    unfold Oper.wp
    simp [execOp, ho, hx, hy, hz, hrun, Result.andThen]
    exact hK' _ _ (hK w' r1 r2)
theorem wpList_rangeP (x : Operand) (hgd : o.guard = none) (ho : o.op = .range 61 x) (hx : a.eval x = .map m) (h : PartsAt w m ps)
    (hK : ∀ w', RangeP w' m w.heap.size ps [] → Below w.heap.size w w' → w'.heap.size = w.heap.size + 1 → wpList Tryd.prog ops Q rest (a.put o.dst (.pointer (some ⟨w.heap.size, 0, none⟩))) w') : wpList Tryd.prog ops Q (o :: rest) a w :=
  wpList_plain hgd fun K hK' => by
    unfold Oper.wp
    rcases h with ⟨rfl, rfl⟩ | ⟨b, rfl, hb⟩
    · simp [execOp, ho, hx, run_range_nilMap w _ _ _ Tryd.underlying61, Result.andThen]
      exact hK' _ _ (hK _ ⟨.inl ⟨rfl, rfl, heap_alloc_new w _⟩, List.nodup_nil, fun _ h => by cases h⟩ ((Below.refl _ w).alloc (Nat.le_refl _) _) (by simp))
    · simp [execOp, ho, hx, run_range_map w _ _ _ b _ _ Tryd.underlying61 hb, Result.andThen]
      refine hK' _ _ (hK _ ⟨.inr ⟨b, ps.length, rfl, ?_, heap_alloc_new w _, Nat.le_refl _⟩, List.nodup_nil, fun _ h => by cases h⟩ ((Below.refl _ w).alloc (Nat.le_refl _) _) (by simp))
      exact (heap_alloc_old w _ hb.lt).trans hb
theorem wpList_nextP (x : Operand) (hgd : o.guard = none) (ho : o.op = .next x false) (hx : a.eval x = .pointer (some ⟨r, 0, none⟩)) (h : RangeP w m r ps js)
    (hDone : js.Perm (List.range ps.length) → wpList Tryd.prog ops Q rest (a.put o.dst (.tuple #[.bool false])) w)
    (hMore : ∀ (j : Nat) (w' : World), j < ps.length → j ∉ js → RangeP w' m r ps (js ++ [j]) → Turned (Just r) w w' → (Instr.entry (.pointer (some ⟨r, 0, none⟩))).run Tryd.prog w' = .ok (.tuple #[.int .i64 (ptN ps j).a, ptV (ptN ps j)]) w' → wpList Tryd.prog ops Q rest (a.put o.dst (.tuple #[.bool true, .int .i64 (ptN ps j).a, ptV (ptN ps j)])) w') : wpList Tryd.prog ops Q (o :: rest) a w :=
  wpList_plain hgd fun K hK' => by
    unfold Oper.wp
    rcases h.next o.type with ⟨h1, hrun⟩ | ⟨j, w', h1, h2, hrun, h3, h4, h5⟩
    · simp [execOp, ho, hx, hrun, Result.andThen]
      exact hK' _ _ (hDone h1)
    · simp [execOp, ho, hx, hrun, Result.andThen]
      exact hK' _ _ (hMore j w' h1 h2 h3 h4 h5)
end
end Go.Proofs.YtdloaeifiohefaaDoor
