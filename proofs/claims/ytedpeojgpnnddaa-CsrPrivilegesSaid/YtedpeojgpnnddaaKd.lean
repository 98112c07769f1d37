/- Rows of elements of one kind in memory: what a slice of them reads as; one is loaded, stored, appended; two rows are joined. -/
import Derived.Test.YtedpeojgpnnddaaMid
import Derived.Test.YtedpeojgpnnddaaLaw
import Derived.Maps.AppendAt
import Derived.OwnWalk
namespace Go.Proofs.Ytedpeojgpnnddaa
open Go.RowKit Bm

/-- A kind of elements: its cells, how many, and an element of it. -/
structure Kd (α : Type) where
  c : α → List Value
  k : Nat
  d : α
  len : ∀ x, (c x).length = k
  one : ∀ x, ∀ u ∈ c x, u.oneCell' = true
  pos : 0 < k

theorem range_keep {w w' : World} {g off : Nat} {cs : List Value} (h : w.rangeAt g off cs) (hb : w'.heap[g]? = w.heap[g]?) : w'.rangeAt g off cs := fun j v hv => (World.cell?_of_block (a := ⟨g, off + j, none⟩) hb).trans (h j v hv)
theorem At.rng0 {w : World} {g : Nat} {t : TypeId} {cs : List Value} (h : At w g t cs) : w.rangeAt g 0 cs := fun j v hv => by rw [Nat.zero_add]; exact (h.cell j).trans hv

namespace Kd
variable {α : Type} (K : Kd α)
def all (l : List α) : List Value := l.flatMap K.c
def nth (l : List α) (i : Nat) : α := l.getD i K.d
theorem nth_get {l : List α} {i : Nat} (h : i < l.length) : l[i]? = some (K.nth l i) := by
  unfold nth
  rw [List.getD_eq_getElem?_getD, List.getElem?_eq_getElem h]
  rfl
theorem nth_mem {l : List α} {i : Nat} (h : i < l.length) : K.nth l i ∈ l := List.mem_of_getElem? (K.nth_get h)
theorem nth_eq {l : List α} {i : Nat} {x : α} (h : l[i]? = some x) : K.nth l i = x := by
  have := K.nth_get (List.getElem?_eq_some_iff.1 h).1
  rw [h] at this
  exact (Option.some.inj this).symm
theorem all_len (l : List α) : (K.all l).length = l.length * K.k := by
  unfold all
  induction l with
  | nil => simp
  | cons p l ih => rw [List.flatMap_cons, List.length_append, ih, K.len, List.length_cons, Nat.add_mul]; omega
theorem all_one (l : List α) : ∀ u ∈ K.all l, u.oneCell' = true := by
  intro u hu
  obtain ⟨p, _, h⟩ := List.mem_flatMap.1 hu
  exact K.one p u h
theorem all_app (l m : List α) : K.all (l ++ m) = K.all l ++ K.all m := by simp [all]
theorem all_sing (x : α) : K.all [x] = K.c x := by simp [all]
theorem all_get {l : List α} {j : Nat} {x : α} (hj : l[j]? = some x) (i : Nat) (v : Value) (hv : (K.c x)[i]? = some v) : (K.all l)[j * K.k + i]? = some v := by
  induction l generalizing j with
  | nil => simp at hj
  | cons c l ih =>
    unfold all at ih ⊢
    rw [List.flatMap_cons]
    have hl := K.len c
    cases j with
    | zero =>
      simp only [List.getElem?_cons_zero, Option.some.injEq] at hj
      subst hj
      rw [Nat.zero_mul, Nat.zero_add, List.getElem?_append_left (List.getElem?_eq_some_iff.1 hv).1, hv]
    | succ j =>
      rw [List.getElem?_cons_succ] at hj
      rw [List.getElem?_append_right (by rw [hl, Nat.add_mul]; omega), hl, show (j + 1) * K.k + i - K.k = j * K.k + i by rw [Nat.add_mul]; omega]
      exact ih hj
theorem all_split {l : List α} {i : Nat} (h : i < l.length) : K.all l = K.all (l.take i) ++ (K.c (K.nth l i) ++ K.all (l.drop (i + 1))) := by
  have e : l = l.take i ++ (K.nth l i :: l.drop (i + 1)) := by
    have h1 : K.nth l i :: l.drop (i + 1) = l.drop i := by
      rw [List.drop_eq_getElem_cons h]
      unfold nth
      rw [List.getD_eq_getElem?_getD, List.getElem?_eq_getElem h]
      rfl
    rw [h1, List.take_append_drop]
  conv => lhs; rw [e]
  unfold all
  rw [List.flatMap_append, List.flatMap_cons]
theorem all_set {l : List α} {i : Nat} (x : α) (h : i < l.length) : K.all (l.set i x) = K.all (l.take i) ++ (K.c x ++ K.all (l.drop (i + 1))) := by
  have e : l.set i x = l.take i ++ (x :: l.drop (i + 1)) := by
    rw [List.set_eq_take_append_cons_drop, if_pos h]
  rw [e]
  unfold all
  rw [List.flatMap_append, List.flatMap_cons]
theorem pre_len {l : List α} {i : Nat} (h : i ≤ l.length) : (K.all (l.take i)).length = i * K.k := by rw [K.all_len, List.length_take, Nat.min_eq_left h]
theorem nth_set {l : List α} {i j : Nat} (x : α) (h : i < l.length) : K.nth (l.set i x) j = if j = i then x else K.nth l j := by
  unfold nth
  rw [List.getD_eq_getElem?_getD, List.getD_eq_getElem?_getD, List.getElem?_set]
  by_cases e : i = j
  · subst e; rw [if_pos rfl, if_pos rfl]; simp [h]
  · rw [if_neg e, if_neg (fun h => e h.symm)]
theorem ext {l m : List α} (hl : l.length = m.length) (h : ∀ i, i < l.length → K.nth l i = K.nth m i) : l = m := by
  apply List.ext_getElem? 
  intro i
  by_cases hi : i < l.length
  · rw [K.nth_get hi, K.nth_get (hl ▸ hi), h i hi]
  · rw [List.getElem?_eq_none (by omega), List.getElem?_eq_none (by omega)]

/-- A slice (nil too) reads as these elements. -/
structure Reads (w : World) (A : Option Addr) (n cap : Nat) (xs : List α) : Prop where
  len : xs.length = n
  le : n ≤ cap
  max : cap ≤ maxLen
  cell : 0 < n → ∃ g off, A = some ⟨g, off, none⟩ ∧ g < w.heap.size ∧ ∀ j x, xs[j]? = some x → w.rangeAt g (off + j * K.k) (K.c x)
section
variable {K} {w w' : World} {A : Option Addr} {n cap : Nat} {xs : List α}
theorem Reads.kept (h : K.Reads w A n cap xs) (hB : Below w.heap.size w w') : K.Reads w' A n cap xs :=
  ⟨h.len, h.le, h.max, fun hn => by
    obtain ⟨g, off, e, hlt, hc⟩ := h.cell hn
    exact ⟨g, off, e, Nat.lt_of_lt_of_le hlt hB.size, fun j b hb => range_keep (hc j b hb) (hB.block g hlt)⟩⟩
theorem Reads.turned {S : Nat → Prop} (h : K.Reads w A n cap xs) (hB : Turned S w w') (hS : ∀ g off, A = some ⟨g, off, none⟩ → ¬ S g) : K.Reads w' A n cap xs :=
  ⟨h.len, h.le, h.max, fun hn => by
    obtain ⟨g, off, e, hlt, hc⟩ := h.cell hn
    exact ⟨g, off, e, Nat.lt_of_lt_of_le hlt hB.size, fun j b hb => range_keep (hc j b hb) (hB.block g hlt (hS g off e))⟩⟩
theorem Reads.at_ (h : K.Reads w A n cap xs) {j : Nat} (hj : j < n) : ∃ g off, A = some ⟨g, off, none⟩ ∧ g < w.heap.size ∧ w.rangeAt g (off + j * K.k) (K.c (K.nth xs j)) := by
  obtain ⟨g, off, e, hlt, hc⟩ := h.cell (by omega)
  exact ⟨g, off, e, hlt, hc j _ (K.nth_get (by rw [h.len]; exact hj))⟩
theorem Reads.of_at {g : Nat} {t : TypeId} {rest : List Value} (hA : At w g t (K.all xs ++ rest)) (hc : xs.length ≤ cap) (hm : cap ≤ maxLen) : K.Reads w (some ⟨g, 0, none⟩) xs.length cap xs :=
  ⟨rfl, hc, hm, fun _ => ⟨g, 0, rfl, hA.lt, fun j b hj i v hv => by
    rw [hA.cell, Nat.zero_add, List.getElem?_append_left]
    · exact K.all_get hj i v hv
    · exact (List.getElem?_eq_some_iff.1 (K.all_get hj i v hv)).1⟩⟩
theorem Reads.none (w : World) : K.Reads w none 0 0 [] := ⟨rfl, Nat.le_refl _, Nat.zero_le _, fun h => absurd h (by omega)⟩
theorem Reads.of_own {base : Nat} {t : TypeId} {v : Value} (h : w.ownsRow base t K.k v n (K.all xs)) (hn : n = xs.length) : ∃ A cap, v = .slice A n cap ∧ K.Reads w A n cap xs ∧ (A = Option.none → cap = 0) := by
  subst hn
  have h0 := h
  rcases h.2 with ⟨rfl, e⟩ | ⟨g, cap, cur, rfl, _⟩
  · have : xs = [] := List.eq_nil_of_length_eq_zero e
    subst this
    exact ⟨Option.none, 0, rfl, Reads.none w, fun _ => rfl⟩
  · obtain ⟨rest, hA, _, h2, h3, _⟩ := at_of_own h0
    exact ⟨_, cap, rfl, Reads.of_at hA h2 h3, fun h => by cases h⟩
/-- The row of cells that a slice reads as, whole. -/
theorem Reads.whole (h : K.Reads w A n cap xs) {ad : Addr} (e : A = some ad) : ∀ j u, (K.all xs)[j]? = some u → w.cell? (ad.add j) = some u := by
  intro j u hu
  have hj : j < n * K.k := by
    have := (List.getElem?_eq_some_iff.1 hu).1
    rwa [K.all_len, h.len] at this
  have hn : 0 < n := by
    rcases Nat.eq_zero_or_pos n with e0 | e0
    · rw [e0, Nat.zero_mul] at hj; omega
    · exact e0
  obtain ⟨g, off, e', hlt, hc⟩ := h.cell hn
  rw [e] at e'
  obtain rfl := Option.some.inj e'
  have hq : j / K.k < n := (Nat.div_lt_iff_lt_mul K.pos).2 hj
  have hr : j % K.k < K.k := Nat.mod_lt _ K.pos
  have hx := K.nth_get (l := xs) (i := j / K.k) (by rw [h.len]; exact hq)
  obtain ⟨v, hv⟩ : ∃ v, (K.c (K.nth xs (j / K.k)))[j % K.k]? = some v := ⟨_, List.getElem?_eq_getElem (by rw [K.len]; exact hr)⟩
  have hg := K.all_get hx (j % K.k) v hv
  have hdm : j / K.k * K.k + j % K.k = j := by rw [Nat.mul_comm]; exact Nat.div_add_mod j K.k
  rw [hdm] at hg
  rw [hg] at hu
  obtain rfl := Option.some.inj hu
  have := hc _ _ hx (j % K.k) v hv
  have ea : (⟨g, off, Option.none⟩ : Addr).add j = ⟨g, off + j, Option.none⟩ := by unfold Addr.add; split <;> simp_all
  rw [ea]
  rwa [Nat.add_assoc, hdm] at this
end
end Kd

theorem run_append_no {P : Program} (t ty e : TypeId) (i : TypeInfo) (ht : P.underlying t = some (.slice e)) (hi : P.info? e = some i) (base : Option Addr) (n cap c : Nat) (h : n ≤ cap) (w : World) :
    (Builtin.append_ #[t, t] ty #[.slice base n cap, .slice none 0 c]).run P w = .ok (.slice base n cap) w := by
  cases base <;> simp [Builtin.append_, run_underlying ht, sizeOf, typeInfo, hi, h, go_sem]

section
variable {α : Type} {K : Kd α} {P : Program} {ops : Array Oper} {rest : List Oper} {o : Oper} {a : Go.Act} {w : World} {Q : Exit → Go.Act → World → Prop} {base : Nat} {xs ys : List α} {v : Value} {T SL : TypeId} {i0 : TypeInfo} {z : Value} {bytes : Nat}
/-- A row of one's own, and what another slice reads as. -/
theorem run_join (hS : P.underlying SL = some (.slice T)) (hin : P.info? T = some i0) (hz0 : i0.zero = some z) (hz1 : i0.size = K.k) (hz2 : i0.bytes = bytes) (hz3 : z.cells.size = K.k) (hby : bytes ≤ 10000) (ty : TypeId)
    (hown : w.ownsRow base T K.k v xs.length (K.all xs)) {A : Option Addr} {n c : Nat} (hr : K.Reads w A n c ys) (hl : xs.length + n ≤ 100000) (hb : base ≤ w.heap.size) :
    ∃ B cap w', (Builtin.append_ #[SL, SL] ty #[v, .slice A n c]).run P w = .ok (.slice B (xs.length + n) cap) w' ∧ w'.ownsRow base T K.k (.slice B (xs.length + n) cap) (xs.length + n) (K.all (xs ++ ys)) ∧ Below base w w' ∧ w.grownBy w' v.ownBlock := by
  have hbb : (xs.length + n) * bytes ≤ 100000 * 10000 := Nat.mul_le_mul hl hby
  have form : ∀ {W : World} {v : Value} {n : Nat} {xs : List Value}, W.ownsRow base T K.k v n xs → ∃ A cap, v = .slice A n cap ∧ n ≤ cap := fun h => by
    obtain ⟨_, ⟨rfl, rfl⟩ | ⟨g, cap, cur, rfl, _, _, hc, _⟩⟩ := h
    · exact ⟨none, 0, rfl, Nat.le_refl _⟩
    · exact ⟨_, cap, rfl, hc⟩
  cases A with
  | none =>
    obtain rfl : n = 0 := by
      rcases Nat.eq_zero_or_pos n with e | e
      · exact e
      · obtain ⟨g, off, e', _⟩ := hr.cell e
        cases e'
    obtain rfl : ys = [] := List.eq_nil_of_length_eq_zero hr.len
    obtain ⟨A, cap, rfl, hnc⟩ := form hown
    exact ⟨A, cap, w, run_append_no SL ty T i0 hS hin A _ cap c hnc w, by simpa using hown, Below.refl _ _, ⟨rfl, rfl, rfl, Nat.le_refl _, fun _ _ _ => rfl⟩⟩
  | some ad =>
    obtain ⟨v', w', h1, h2, h3, _, _⟩ := run_append_own_at (P := P) w base SL ty T i0 z K.k bytes hS hin hz0 hz1 hz2 hz3 K.pos v xs.length _ hown ad n c (K.all ys) (by rw [K.all_len, hr.len]) (hr.whole rfl) (K.all_one ys) (by unfold maxLen; omega) (by omega) hb
    obtain ⟨B, cap', e, _⟩ := form h2
    subst e
    exact ⟨B, cap', w', h1, by rw [K.all_app]; exact h2, (Below.refl base w).grown h3 hb (fun k hk => (hown.lt k hk).1), h3⟩
theorem wpList_join (s x : Operand) (hgd : o.guard = none) (hop : o.op = .call { callee := .builtin .append, args := #[s, x], argTypes := #[SL, SL] }) (hS : P.underlying SL = some (.slice T)) (hin : P.info? T = some i0) (hz0 : i0.zero = some z) (hz1 : i0.size = K.k) (hz2 : i0.bytes = bytes) (hz3 : z.cells.size = K.k) (hby : bytes ≤ 10000)
    (hs : a.eval s = v) (hown : w.ownsRow base T K.k v xs.length (K.all xs)) {A : Option Addr} {n c : Nat} (hx : a.eval x = .slice A n c) (hr : K.Reads w A n c ys) (hl : xs.length + n ≤ 100000) (hb : base ≤ w.heap.size)
    (h : ∀ B cap w', w'.ownsRow base T K.k (.slice B (xs.length + n) cap) (xs.length + n) (K.all (xs ++ ys)) → Below base w w' → w.grownBy w' v.ownBlock → wpList P ops Q rest (a.put o.dst (.slice B (xs.length + n) cap)) w') : wpList P ops Q (o :: rest) a w := by
  obtain ⟨B, cap, w', hr, h1, h2, h3⟩ := run_join hS hin hz0 hz1 hz2 hz3 hby o.type hown hr hl hb
  refine wpList_plain hgd fun K hK => ?_
  unfold Oper.wp execOp
  simp only [hop, resolve, invoke, builtin, Sem.run_bind, Sem.run_pure, Result.andThen_ok, List.map_toArray, List.map_cons, List.map_nil, hs, hx, hr]
  exact hK _ _ (h _ _ _ h1 h2 h3)
end

theorem Kd.made {α : Type} (K : Kd α) (n : Nat) : (madeCells (K.c K.d).toArray (n * K.k)).toList = K.all (List.replicate n K.d) := by
  have hp := K.pos
  apply List.ext_getElem?
  intro i
  by_cases hi : i < n * K.k
  · have hq : i / K.k < n := (Nat.div_lt_iff_lt_mul hp).2 hi
    have hr : i % K.k < K.k := Nat.mod_lt _ hp
    have hx : (List.replicate n K.d)[i / K.k]? = some K.d := by rw [List.getElem?_replicate, if_pos hq]
    have hv : (K.c K.d)[i % K.k]? = some ((K.c K.d)[i % K.k]'(by rw [K.len]; exact hr)) := List.getElem?_eq_getElem _
    have hg := K.all_get hx (i % K.k) _ hv
    rw [Nat.mul_comm, Nat.div_add_mod] at hg
    rw [hg]
    unfold madeCells
    simp [hi, K.len, hr]
  · rw [List.getElem?_eq_none (by simp [madeCells]; omega), List.getElem?_eq_none (by rw [K.all_len, List.length_replicate]; omega)]
/-- A row of so many new elements. -/
theorem wpList_madeK {α : Type} (K : Kd α) {P : Program} (w : World) {ops : Array Oper} {rest : List Oper} {o : Oper} {a : Go.Act} {Q : Exit → Go.Act → World → Prop} {T SL : TypeId} {i0 : TypeInfo} {bytes : Nat}
    (hg : o.guard = none) (l c : Operand) (hop : o.op = Op.makeSlice SL l c) (base : Nat) (hS : P.underlying SL = some (.slice T)) (hin : P.info? T = some i0) (hz0 : i0.zero = some (.agg (K.c K.d).toArray)) (hz1 : i0.size = K.k) (hz2 : i0.bytes = bytes) (hby : bytes ≤ 10000)
    (n : Nat) (hl : a.eval l = .int .i64 n) (hc : a.eval c = .int .i64 n) (hn : n ≤ 1000000) (hb : base ≤ w.heap.size)
    (hK : ∀ w', w'.ownsRow base T K.k (.slice (some ⟨w.heap.size, 0, none⟩) n n) n (K.all (List.replicate n K.d)) → Below base w w' → wpList P ops Q rest (a.put o.dst (.slice (some ⟨w.heap.size, 0, none⟩) n n)) w') :
    wpList P ops Q (o :: rest) a w := by
  have hbb : bytes * n ≤ 10000 * 1000000 := Nat.mul_le_mul hby hn
  refine wpList_make_full w hg l c SL hop base T i0 _ K.k hS hin hz0 hz1 .i64 .i64 (n : Int) (n : Int) n hl hc rfl rfl (by rw [hz2]; omega) (by unfold maxLen; omega) hb ?_
  intro w' h1 h2
  refine hK w' ?_ ((Below.refl base w).grown h2 hb (fun k e => by cases e))
  rw [← K.made]
  exact h1

/-- A row of one's own, one of whose elements is stored anew: its block, around the element. -/
theorem own_around {α : Type} {K : Kd α} {w : World} {base g cap : Nat} {t : TypeId} {xs : List α} (h : w.ownsRow base t K.k (.slice (some ⟨g, 0, none⟩) xs.length cap) xs.length (K.all xs)) {j : Nat} (hj : j < xs.length) :
    ∃ rest, At w g t (K.all (xs.take j) ++ (K.c (K.nth xs j) ++ (K.all (xs.drop (j + 1)) ++ rest))) ∧ (K.all (xs.take j)).length = j * K.k ∧ base ≤ g ∧
      ∀ W x, At W g t (K.all (xs.take j) ++ (K.c x ++ (K.all (xs.drop (j + 1)) ++ rest))) → W.ownsRow base t K.k (.slice (some ⟨g, 0, none⟩) xs.length cap) xs.length (K.all (xs.set j x)) := by
  obtain ⟨rest, hA, h1, h2, h3, h4⟩ := at_of_own h
  refine ⟨rest, ?_, K.pre_len (by omega), h4, fun W x hW => ?_⟩
  · rw [K.all_split hj] at hA
    simpa only [List.append_assoc] using hA
  · refine own_of_at (rest := rest) ?_ h4 (by rw [K.all_len, List.length_set]) ?_ h2 h3
    · rw [K.all_set x hj]
      simpa only [List.append_assoc] using hW
    · rw [← h1, List.length_append, List.length_append, K.all_len, K.all_len, List.length_set]
theorem own_some {w : World} {base n k : Nat} {t : TypeId} {A : Option Addr} {cap : Nat} {xs : List Value} (h : w.ownsRow base t k (.slice A n cap) n xs) (hn : 0 < n) : ∃ g, A = some ⟨g, 0, none⟩ ∧ base ≤ g ∧ g < w.heap.size := by
  rcases h.2 with ⟨e, _⟩ | ⟨g, cap', cur, e, hb, hg, _⟩
  · simp only [Value.slice.injEq] at e; omega
  · simp only [Value.slice.injEq] at e
    exact ⟨g, e.1, hb, (Array.getElem?_eq_some_iff.1 hg).1⟩
theorem own_turned {S : Nat → Prop} {w w' : World} {base n k : Nat} {t : TypeId} {v : Value} {xs : List Value} (h : w.ownsRow base t k v n xs) (hT : Turned S w w') (hS : ∀ i, base ≤ i → ¬ S i) : w'.ownsRow base t k v n xs := by
  obtain ⟨hl, h⟩ := h
  refine ⟨hl, ?_⟩
  rcases h with h | ⟨g, cap, cur, rfl, hb, hg, h2⟩
  · exact .inl h
  · exact .inr ⟨g, cap, cur, rfl, hb, (hT.block g (Array.getElem?_eq_some_iff.1 hg).1 (hS g hb)).trans hg, h2⟩
theorem own_base {w : World} {base base' n k : Nat} {t : TypeId} {v : Value} {xs : List Value} (h : w.ownsRow base t k v n xs) (hb : base' ≤ base) : w.ownsRow base' t k v n xs := by
  obtain ⟨hl, h⟩ := h
  refine ⟨hl, ?_⟩
  rcases h with h | ⟨g, cap, cur, rfl, hb', h2⟩
  · exact .inl h
  · exact .inr ⟨g, cap, cur, rfl, Nat.le_trans hb hb', h2⟩
theorem turned_set (w : World) (b i : Nat) (u : Value) : Turned (Just b) w (w.setCell ⟨b, i, none⟩ u) := (Turned.refl (Just b) w).setCell (p := ⟨b, i, none⟩) (fun _ => rfl) u
theorem below_set {w : World} {B b : Nat} (i : Nat) (h : B ≤ b) (hB : B ≤ w.heap.size) (u : Value) : Below B w (w.setCell ⟨b, i, none⟩ u) :=
  (turned_set w b i u).below (fun k hk => by unfold Just at hk; omega) hB
theorem below_just {w w' : World} {B b : Nat} (h : Turned (Just b) w w') (hb : B ≤ b) (hB : B ≤ w.heap.size) : Below B w w' :=
  h.below (fun k hk => by unfold Just at hk; omega) hB
theorem Kd.drewB (B : Nat) (w : World) (n : Nat) : Below B w (w.drewN n) := ⟨rfl, rfl, rfl, Nat.le_refl _, fun _ _ => rfl⟩
theorem own_form {w : World} {base n k : Nat} {t : TypeId} {v : Value} {xs : List Value} (h : w.ownsRow base t k v n xs) : ∃ A cap, v = .slice A n cap := by
  obtain ⟨_, ⟨rfl, rfl⟩ | ⟨g, cap, cur, rfl, _⟩⟩ := h
  · exact ⟨none, 0, rfl⟩
  · exact ⟨_, cap, rfl⟩

/-- A result that lies in a variable: its cells. -/
theorem res_cell {P : Program} {fn : Func} {p : Tmp} {T : TypeId} {d : TypeDesc} {n : Nat} (h : fn.results = #[.cell p T]) (tmps : Array Value) {w : World} {g : Nat} {cs : List Value} (hu : P.underlying T = some d) (hd : d.isRow = true) (hi : (P.info? T).map (·.size) = some n) (hp : tmps.getD p undef = .pointer (some ⟨g, 0, none⟩)) (hA : At w g T cs) (hn : cs.length = n) : (results fn tmps).run P w = .ok (.agg cs.toArray) w := by
  have hp' : tmps[p]?.getD undef = .pointer (some ⟨g, 0, none⟩) := by simpa using hp
  simp [results, h, hp', asAddr, run_loadVar_row (P := P) w g T T cs.toArray (0, 0) _ hA hu (by cases d <;> exact hd) (by rw [hi]; simp [hn])]
theorem res_cell2 {P : Program} {fn : Func} {p q : Tmp} {T : TypeId} {d : TypeDesc} {n : Nat} (h : fn.results = #[.cell p T, .tmp q]) (tmps : Array Value) {w : World} {g : Nat} {cs : List Value} {v : Value} (hu : P.underlying T = some d) (hd : d.isRow = true) (hi : (P.info? T).map (·.size) = some n) (hp : tmps.getD p undef = .pointer (some ⟨g, 0, none⟩)) (hq : tmps.getD q undef = v) (hA : At w g T cs) (hn : cs.length = n) : (results fn tmps).run P w = .ok (.tuple #[.agg cs.toArray, v]) w := by
  have hp' : tmps[p]?.getD undef = .pointer (some ⟨g, 0, none⟩) := by simpa using hp
  have hq' : tmps[q]?.getD undef = v := by simpa using hq
  simp [results, h, hp', hq', asAddr, run_loadVar_row (P := P) w g T T cs.toArray (0, 0) _ hA hu (by cases d <;> exact hd) (by rw [hi]; simp [hn])]

/-! ### An operation behind a test that holds -/
section
variable {P : Program} {ops : Array Oper} {rest : List Oper} {o : Oper} {a : Go.Act} {w : World} {Q : Exit → Go.Act → World → Prop} {g off n : Nat} {ty : TypeId} {xs : List Value} {d : TypeDesc}
theorem wpList_want (hw : Region.wanted o (yielded ops a.tmps) = true) (h : ∀ K : Go.Act → World → Prop, (∀ a w, wpList P ops Q rest a w → K a w) → o.wp P a w K Q) : wpList P ops Q (o :: rest) a w := by
  unfold wpList
  rw [if_pos hw]
  exact .inl (h _ (fun _ _ h => h))
theorem wpList_fldw {T f : Nat} {v u : Value} (x : Operand) (hw : Region.wanted o (yielded ops a.tmps) = true) (ho : o.op = .field T x f) (hx : a.eval x = v) (hr : ∀ w, (Instr.field T v f).run P w = .ok u w)
    (hK : wpList P ops Q rest (a.put o.dst u) w) : wpList P ops Q (o :: rest) a w :=
  wpList_want hw fun K hK' => by
    unfold Oper.wp execOp
    simp only [ho, hx, Sem.run_bind, hr, Result.andThen_ok]
    exact hK' _ _ hK
theorem wpList_ldw (x : Operand) (hw : Region.wanted o (yielded ops a.tmps) = true) (ho : o.op = .load ty x) (hx : a.eval x = .pointer (some ⟨g, off, none⟩)) (hu : P.underlying ty = some d) (hd : d.isRow = true) (hi : (P.info? ty).map (·.size) = some n) (hn : xs.length = n) (hc : w.rangeAt g off xs)
    (h : wpList P ops Q rest (a.put o.dst (.agg xs.toArray)) w) : wpList P ops Q (o :: rest) a w :=
  wpList_want hw fun K hK' => wp_load_mid ty x ho g off hx xs d hc hu hd (by rw [hi, hn]) (hK' _ _ h)
end
end Go.Proofs.Ytedpeojgpnnddaa
