/- Places in memory (layer latest). -/
import Derived.Test.YtnfgpjfldgocaaaGreatLatMath
import Derived.Test.YtnfgpjfldgocaaaGreatScanTheirs
import Derived.Test.YtnfgpjfldgocaaaGreatScanEq
import Derived.Test.YtnfgpjfldgocaaaGreatBuild
import Derived.BigRegion
import Derived.BigQuiet
import Derived.Deep.QuietTactic
import Derived.Deep.DeepCutAuto
import Derived.Deep.AppendLies
import Derived.Deep.LoopGhost
import Derived.Deep.Light
import Derived.Lib.Hide
namespace Go.Proofs.YtnfgpjfldgocaaaGreat
open Go.RowKit Bm

theorem rpl_size : (Tryz.prog.info? 76).map (·.size) = some 9 := by kernel_rfl
theorem rpl_infoA : (Tryz.prog.info? 76).map (fun i => (i.zero, i.size, i.bytes)) = some (some (.agg (plC pl0).toArray), 9, 48) := by kernel_rfl
theorem rpl_infoZ : (Tryz.prog.info? 76).map (fun i => (i.zero, i.size)) = some (some (.agg (plC pl0).toArray), 9) := by kernel_rfl
theorem rpl_zero (w : World) : (zeroValue 76).run Tryz.prog w = .ok (.agg (plC pl0).toArray) w := (zero_of_info rpl_infoZ).1 w
theorem spl_size : (Tryz.prog.info? 106).map (·.size) = some 9 := by kernel_rfl
theorem spl_infoA : (Tryz.prog.info? 106).map (fun i => (i.zero, i.size, i.bytes)) = some (some (.agg (plC pl0).toArray), 9, 48) := by kernel_rfl
theorem spl_infoZ : (Tryz.prog.info? 106).map (fun i => (i.zero, i.size)) = some (some (.agg (plC pl0).toArray), 9) := by kernel_rfl
theorem spl_zero (w : World) : (zeroValue 106).run Tryz.prog w = .ok (.agg (plC pl0).toArray) w := (zero_of_info spl_infoZ).1 w
set_option maxRecDepth 100000 in
theorem run_rbuild (b i : Int) (p : PageM) (w : World) : (Instr.build 76 #[(0, .int .i64 b), (1, .int .i64 i), (2, .agg (pgC p).toArray)]).run Tryz.prog w = .ok (.agg (plC ⟨b, i, p⟩).toArray) w := by
  obtain ⟨s, q, g, d0, d1, d2, d3⟩ := p
  unfold plC pgC
  simp only
  generalize U s = s
  generalize U q = q
  generalize U d0 = d0
  generalize U d1 = d1
  generalize U d2 = d2
  generalize U d3 = d3
  kernel_rfl
set_option maxRecDepth 100000 in
theorem run_sbuild (b i : Int) (p : PageM) (w : World) : (Instr.build 106 #[(0, .int .i64 b), (1, .int .i64 i), (2, .agg (pgC p).toArray)]).run Tryz.prog w = .ok (.agg (plC ⟨b, i, p⟩).toArray) w := by
  obtain ⟨s, q, g, d0, d1, d2, d3⟩ := p
  unfold plC pgC
  simp only
  generalize U s = s
  generalize U q = q
  generalize U d0 = d0
  generalize U d1 = d1
  generalize U d2 = d2
  generalize U d3 = d3
  kernel_rfl
section
variable {ops : Array Oper} {rest : List Oper} {o : Oper} {a : Go.Act} {w : World} {Q : Exit → Go.Act → World → Prop}
theorem wpList_bpl {T : TypeId} {b i : Int} {p : PageM} (hr : ∀ w, (Instr.build T #[(0, .int .i64 b), (1, .int .i64 i), (2, .agg (pgC p).toArray)]).run Tryz.prog w = .ok (.agg (plC ⟨b, i, p⟩).toArray) w) (x y z : Operand) (hgd : o.guard = none) (ho : o.op = .build T #[(0, x), (1, y), (2, z)]) (hx : a.eval x = .int .i64 b) (hy : a.eval y = .int .i64 i) (hz : a.eval z = .agg (pgC p).toArray)
    (hK : wpList Tryz.prog ops Q rest (a.put o.dst (.agg (plC ⟨b, i, p⟩).toArray)) w) : wpList Tryz.prog ops Q (o :: rest) a w :=
  wpList_plain hgd fun K hK' => by
    unfold Oper.wp execOp
    simp only [ho, List.map_toArray, List.map_cons, List.map_nil, hx, hy, hz, Sem.run_bind, hr, Result.andThen_ok]
    exact hK' _ _ hK
end
theorem bk_page_range {w : World} {g off : Nat} {b : BlkM} (h : BlkOk b) (hr : w.rangeAt g off (bkC b)) (k : Nat) (hk : k < 8) : w.rangeAt g (off + 10 + k * 7) (pgC (pgN b.pages k)) := fun j v hv => by
  obtain ⟨pre, post, h1, h2, _⟩ := bk_page h k hk
  have := hr (pre.length + j) v (by rw [h2, List.getElem?_append_right (by omega), Nat.add_sub_cancel_left, List.getElem?_append_left (List.getElem?_eq_some_iff.1 hv).1]; exact hv)
  rwa [h1, show off + (10 + 7 * k + j) = off + 10 + k * 7 + j by omega] at this
/-- A place's cells: block, page, sector, number. -/
theorem pl_cells {w : World} {g off : Nat} {x : PlM} (hr : w.rangeAt g off (plC x)) : w.cell? ⟨g, off, none⟩ = some (.int .i64 x.b) ∧ w.cell? ⟨g, off + 1, none⟩ = some (.int .i64 x.i) ∧ w.cell? ⟨g, off + 2, none⟩ = some (.int .u32 (U x.p.s)) ∧ w.cell? ⟨g, off + 2 + 1, none⟩ = some (.int .u32 (U x.p.q)) :=
  ⟨hr 0 _ rfl, hr 1 _ rfl, hr 2 _ rfl, hr 3 _ rfl⟩
theorem ReadsL.of_own {w : World} {base : Nat} {t : TypeId} {v : Value} {xs : List PlM} {n : Nat} (h : w.ownsRow base t 9 v n (pls xs)) (hn : n = xs.length) : ∃ A cap, v = .slice A xs.length cap ∧ ReadsL w A xs.length cap xs := by
  subst hn
  have h0 := h
  rcases h.2 with ⟨rfl, e⟩ | ⟨g, cap, cur, rfl, _⟩
  · have : xs = [] := List.eq_nil_of_length_eq_zero e
    subst this
    exact ⟨Option.none, 0, rfl, ReadsL.none w⟩
  · obtain ⟨rest, hA, _, h2, h3, _⟩ := at_of_own h0
    exact ⟨_, cap, rfl, ReadsL.of_at hA h2 h3⟩
/-- The results of a function that returns a place and a bool, the place out of its variable. -/
theorem rpl_res2 {fn : Func} {i j : Tmp} (h : fn.results = #[.cell i 76, .tmp j]) (tmps : Array Value) {w : World} {g : Nat} {x : PlM} {v : Value} (hp : tmps.getD i undef = .pointer (some ⟨g, 0, none⟩)) (hq : tmps.getD j undef = v) (hA : At w g 76 (plC x)) :
    (results fn tmps).run Tryz.prog w = .ok (.tuple #[plV x, v]) w := by
  have hp' : tmps[i]?.getD undef = .pointer (some ⟨g, 0, none⟩) := by simpa using hp
  have hq' : tmps[j]?.getD undef = v := by simpa using hq
  simp [results, h, hp', hq', asAddr, run_loadVar_row (P := Tryz.prog) w g 76 76 (plC x).toArray (0, 0) _ hA Tryz.underlying76 rfl (by rw [rpl_size]; simp [plC, pgC]), plV]

theorem lFind_at {xs : List PlM} {s : BitVec 32} : ∀ {j : Nat}, j < xs.length → (∀ k, k < j → (plN xs k).p.s ≠ s) → (plN xs j).p.s = s → lFind xs s = some (plN xs j) := by
  induction xs with
  | nil => intro j h; simp at h
  | cons x xs ih =>
    intro j h hb hj
    unfold lFind
    rw [List.find?_cons]
    cases j with
    | zero =>
      have : (plN (x :: xs) 0) = x := rfl
      rw [this] at hj ⊢
      simp [hj]
    | succ j =>
      have h0 := hb 0 (by omega)
      have : (plN (x :: xs) 0) = x := rfl
      rw [this] at h0
      have e : plN (x :: xs) (j + 1) = plN xs j := by unfold plN; simp
      rw [e] at hj ⊢
      have := ih (j := j) (by simpa using h) (fun k hk => by have := hb (k + 1) (by omega); rwa [show plN (x :: xs) (k + 1) = plN xs k by unfold plN; simp] at this) hj
      unfold lFind at this
      simp [h0, this]
theorem lFind_no {xs : List PlM} {s : BitVec 32} (hb : ∀ k, k < xs.length → (plN xs k).p.s ≠ s) : lFind xs s = none := by
  unfold lFind
  rw [List.find?_eq_none]
  intro y hy
  obtain ⟨k, hk, rfl⟩ := List.getElem_of_mem hy
  have := hb k hk
  unfold plN at this
  rw [List.getD_eq_getElem?_getD, List.getElem?_eq_getElem hk] at this
  simpa using this
theorem fold_step {β : Type} (f : β → PlM → β) (b : β) (xs : List PlM) (j : Nat) (h : j < xs.length) : (xs.take (j + 1)).foldl f b = f ((xs.take j).foldl f b) (plN xs j) := by
  rw [List.take_add_one, plN_get h]
  simp
/-- A place more behind one's own. -/
theorem wpList_appL {ops : Array Oper} {rest : List Oper} {o : Oper} {a : Go.Act} {w : World} {Q : Exit → Go.Act → World → Prop} {base : Nat} {xs : List PlM} {y : PlM} {v : Value} {T SL : TypeId} {i0 : TypeInfo} {z : Value} (hS : Tryz.prog.underlying SL = some (.slice T)) (hin : Tryz.prog.info? T = some i0) (hz0 : i0.zero = some z) (hz1 : i0.size = 9) (hz2 : i0.bytes = 48) (hz3 : z.cells.size = 9)
    (s x : Operand) (hgd : o.guard = none) (hop : o.op = .call { callee := .builtin .append, args := #[s, x], argTypes := #[SL, SL] }) (hs : a.eval s = v) (hown : w.ownsRow base T 9 v xs.length (pls xs)) {g : Nat} (hx : a.eval x = .slice (some ⟨g, 0, none⟩) 1 1) (hA : At w g T (plC y)) (hl : xs.length ≤ 100000) (hb : base ≤ w.heap.size)
    (h : ∀ g cap w', w'.ownsRow base T 9 (.slice (some ⟨g, 0, none⟩) (xs ++ [y]).length cap) (xs ++ [y]).length (pls (xs ++ [y])) → w.grownBy w' v.ownBlock → Below base w w' → wpList Tryz.prog ops Q rest (a.put o.dst (.slice (some ⟨g, 0, none⟩) (xs ++ [y]).length cap)) w') : wpList Tryz.prog ops Q (o :: rest) a w := by
  refine wpList_append_lies _ hgd s x _ hop base T i0 z 9 48 hS hin hz0 hz1 hz2 hz3 (by omega) v xs.length _ hs hown ⟨g, 0, none⟩ 1 1 (plC y) hx (by rfl) hA.news_at (plC_one _) (by omega) (by unfold maxLen; omega) (by omega) hb _ rfl ?_
  intro g' cap w' h1 h2 _ _
  have e : (xs ++ [y]).length = xs.length + 1 := by rw [List.length_append, List.length_singleton]
  exact e ▸ h g' cap w' (by rw [e, pls_snoc]; exact h1) h2 ((Below.refl base w).grown h2 hb (fun k hk => (hown.lt k hk).1))
end Go.Proofs.YtnfgpjfldgocaaaGreat
