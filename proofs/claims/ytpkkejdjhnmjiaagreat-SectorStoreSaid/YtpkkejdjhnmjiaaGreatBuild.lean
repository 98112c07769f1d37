/- A slice of one struct, written out: its cells are the struct's. -/
import Derived.Test.YtpkkejdjhnmjiaaGreatMid
import Derived.OwnWalk
namespace Go.Proofs.YtpkkejdjhnmjiaaGreat
open Go.RowKit Bm
theorem fold_set_get : ∀ (l : List Value) (k off : Nat) (a : Array Value) (i : Nat), off + k + l.length ≤ a.size → ((l.zipIdx k).foldl (fun cs (x : Value × Nat) => cs.setIfInBounds (off + x.2) x.1) a)[i]? = if off + k ≤ i ∧ i < off + k + l.length then l[i - (off + k)]? else a[i]?
  | [], k, off, a, i, _ => by rw [if_neg (by simp)]; rfl
  | v :: l, k, off, a, i, h => by
    rw [List.zipIdx_cons, List.foldl_cons, fold_set_get l (k + 1) off _ i (by rw [Array.size_setIfInBounds]; rw [List.length_cons] at h; omega)]
    rw [List.length_cons] at h
    rw [List.length_cons]
    by_cases h1 : off + (k + 1) ≤ i ∧ i < off + (k + 1) + l.length
    · rw [if_pos h1, if_pos (by omega), show i - (off + k) = (i - (off + (k + 1))) + 1 by omega, List.getElem?_cons_succ]
    · rw [if_neg h1]
      by_cases e : i = off + k
      · subst e
        rw [if_pos (by omega), Nat.sub_self, List.getElem?_cons_zero, Array.getElem?_setIfInBounds_self_of_lt (by omega)]
      · rw [if_neg (by omega), Array.getElem?_setIfInBounds_ne (by omega)]
theorem fill_one {place : Nat → Option (Nat × Nat)} {cs z : Array Value} (hp : place 0 = some (0, cs.size)) (hz : z.size = cs.size) : Instr.fill place z [(0, .agg cs)] = some cs := by
  unfold Instr.fill
  simp only [hp]
  have h1 : (Value.agg cs).cells.size = cs.size := rfl
  rw [if_neg (by rw [h1]; simp [hz])]
  unfold Instr.fill
  congr 1
  have e : (Value.agg cs).cells.zipIdx = (cs.toList.zipIdx 0).toArray := by
    show cs.zipIdx = _
    rw [← Array.toList_zipIdx]
  rw [e]
  simp only [List.foldl_toArray]
  apply Array.ext_getElem?
  intro i
  have := fold_set_get cs.toList 0 0 z i (by simp [hz])
  rw [this]
  by_cases h : i < cs.size
  · rw [if_pos (by simp; omega)]
    simp
  · rw [if_neg (by simp; omega), Array.getElem?_eq_none (by omega), Array.getElem?_eq_none (by omega)]
theorem run_build_one {P : Program} {T e : TypeId} {cs z : Array Value} {i : TypeInfo} (hT : P.underlying T = some (.slice e)) (hi : P.info? e = some i) (hz : i.zero = some (.agg z)) (hs : i.size = cs.size) (h0 : 0 < cs.size) (h1 : cs.size ≤ 10000) (w : World) :
    (Instr.buildSlice T 1 #[(0, .agg cs)]).run P w = .ok (.slice (some ⟨w.heap.size, 0, none⟩) 1 1) (w.alloc (.cells cs e)) := by
  unfold Instr.buildSlice
  have hzr : ∀ w, (zeroValue e).run P w = .ok (.agg z) w := (zero_of_info (n := i.size) (by rw [hi]; simp [hz])).1
  have hc : P.cellsOf e = cs.size := by unfold Program.cellsOf; rw [hi]; exact hs
  have hsz : ∀ w, (sizeOf e).run P w = .ok cs.size w := fun w => by rw [run_sizeOf w hi, hc]
  have hfill : Instr.fill (fun i => some (i * cs.size, cs.size)) (Array.map (fun x => z[x % z.size]!) (Array.range cs.size)) [(0, Value.agg cs)] = some cs := fill_one (by simp) (by simp)
  simp only [Sem.run_bind, run_underlying hT, Result.andThen_ok, hsz, Nat.one_mul]
  rw [if_neg (by omega), if_neg (by omega)]
  simp only [Sem.run_bind, Result.andThen_ok, hzr, Sem.run_pure]
  have hcells : (Value.agg z).cells = z := rfl
  rw [hcells, hfill]
  rfl
section
variable {P : Program} {ops : Array Oper} {rest : List Oper} {o : Oper} {a : Go.Act} {w : World} {K : Go.Act → World → Prop} {Q : Exit → Go.Act → World → Prop} {T e : TypeId} {cs z : Array Value} {i : TypeInfo} {n : Nat}
theorem wp_build_one (x : Operand) (ho : o.op = .buildSlice T 1 #[(0, x)]) (hx : a.eval x = .agg cs) (hT : P.underlying T = some (.slice e)) (hi : P.info? e = some i) (hz : i.zero = some (.agg z)) (hs : i.size = n) (hn : cs.size = n) (h0 : 0 < n) (h1 : n ≤ 10000)
    (h : K (a.put o.dst (.slice (some ⟨w.heap.size, 0, none⟩) 1 1)) (w.alloc (.cells cs e))) : o.wp P a w K Q := by
  unfold Oper.wp execOp
  have hr := run_build_one hT hi hz (hs.trans hn.symm) (by omega) (by omega) w
  simp only [ho, List.map_toArray, List.map_cons, List.map_nil, hx, Sem.run_bind, hr, Result.andThen_ok]
  exact h
theorem wpList_build_one (x : Operand) (hgd : o.guard = none) (ho : o.op = .buildSlice T 1 #[(0, x)]) (hx : a.eval x = .agg cs) (hT : P.underlying T = some (.slice e)) (hi : P.info? e = some i) (hz : i.zero = some (.agg z)) (hs : i.size = n) (hn : cs.size = n) (h0 : 0 < n) (h1 : n ≤ 10000)
    (h : wpList P ops Q rest (a.put o.dst (.slice (some ⟨w.heap.size, 0, none⟩) 1 1)) (w.alloc (.cells cs e))) : wpList P ops Q (o :: rest) a w :=
  wpList_plain hgd fun _ hK => wp_build_one x ho hx hT hi hz hs hn h0 h1 (hK _ _ h)
theorem wp_append_fits {g k cap m size base : Nat} {xs news : List Value} (s x : Operand) (hop : o.op = Op.call { callee := Callee.builtin Builtin.append, args := #[s, x], argTypes := #[T, T] }) (h1 : P.underlying T = some (.slice e)) (h2 : P.info? e = some i) (h4 : i.size = size)
    (hs : a.eval s = .slice (some ⟨g, 0, none⟩) k cap) (hown : w.ownsRow base e size (.slice (some ⟨g, 0, none⟩) k cap) k xs) {ad : Addr} {c : Nat} (hx : a.eval x = .slice (some ad) m c) (hn : news.length = m * size)
    (hc : ∀ j u, news[j]? = some u → w.cell? (ad.add j) = some u) (h1c : ∀ u ∈ news, u.oneCell' = true) (b1 : k + m ≤ cap)
    (hK : ∀ w', w'.ownsRow base e size (.slice (some ⟨g, 0, none⟩) (k + m) cap) (k + m) (xs ++ news) → w.grownBy w' (some g) → K (a.put o.dst (.slice (some ⟨g, 0, none⟩) (k + m) cap)) w') : o.wp P a w K Q := by
  obtain ⟨w', hrun, r1, r2⟩ := run_append_fits (P := P) w base T o.type e i size h1 h2 h4 g k cap xs hown ad m c news hn hc h1c b1
  unfold Oper.wp
  simp [execOp, hop, resolve, invoke, builtin, hs, hx, hrun, Result.andThen]
  exact hK w' r1 r2
end
theorem At.news_at {w : World} {B : Nat} {t : TypeId} {cs : List Value} (h : At w B t cs) : ∀ j u, cs[j]? = some u → w.cell? ((⟨B, 0, none⟩ : Addr).add j) = some u := fun j u hu => by
  have e : (⟨B, 0, none⟩ : Addr).add j = ⟨B, j, none⟩ := by unfold Addr.add; split <;> simp_all
  rw [e, h.cell, hu]
end Go.Proofs.YtpkkejdjhnmjiaaGreat
