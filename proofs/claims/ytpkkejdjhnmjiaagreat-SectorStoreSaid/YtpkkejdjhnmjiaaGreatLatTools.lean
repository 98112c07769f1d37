/- Places in memory (layer latest). -/
import Derived.Test.YtpkkejdjhnmjiaaGreatLatMath
import Derived.Test.YtpkkejdjhnmjiaaGreatScanTheirs
import Derived.Test.YtpkkejdjhnmjiaaGreatScanEq
import Derived.Test.YtpkkejdjhnmjiaaGreatBuild
import Derived.BigRegion
import Derived.BigQuiet
import Derived.Deep.QuietTactic
import Derived.Deep.DeepCutAuto
import Derived.Deep.AppendLies
import Derived.Deep.LoopGhost
import Derived.Deep.Light
import Derived.Lib.Hide
namespace Go.Proofs.YtpkkejdjhnmjiaaGreat
open Go.RowKit Bm
theorem spl_size : (Tryz.prog.info? 75).map (·.size) = some 9 := by kernel_rfl
theorem spl_infoA : (Tryz.prog.info? 75).map (fun i => (i.zero, i.size, i.bytes)) = some (some (.agg (plC pl0).toArray), 9, 48) := by kernel_rfl
theorem spl_infoZ : (Tryz.prog.info? 75).map (fun i => (i.zero, i.size)) = some (some (.agg (plC pl0).toArray), 9) := by kernel_rfl
theorem spl_zero (w : World) : (zeroValue 75).run Tryz.prog w = .ok (.agg (plC pl0).toArray) w := (zero_of_info spl_infoZ).1 w
set_option maxRecDepth 100000 in
theorem run_sbuild (b i : Int) (p : PageM) (w : World) : (Instr.build 75 #[(0, .int .i64 b), (1, .int .i64 i), (2, .agg (pgC p).toArray)]).run Tryz.prog w = .ok (.agg (plC ⟨b, i, p⟩).toArray) w := by
  obtain ⟨s, q, g, d0, d1, d2, d3⟩ := p
  unfold plC pgC
  simp only
  generalize U s = s
  generalize U q = q
  generalize U d0 = d0
  generalize U d1 = d1
  generalize U d2 = d2
  generalize U d3 = d3
  kernel_rfl
section
variable {ops : Array Oper} {rest : List Oper} {o : Oper} {a : Go.Act} {w : World} {Q : Exit → Go.Act → World → Prop}
end
theorem bk_page_range {w : World} {g off : Nat} {b : BlkM} (h : BlkOk b) (hr : w.rangeAt g off (bkC b)) (k : Nat) (hk : k < 8) : w.rangeAt g (off + 10 + k * 7) (pgC (pgN b.pages k)) := fun j v hv => by
  obtain ⟨pre, post, h1, h2, _⟩ := bk_page h k hk
  have := hr (pre.length + j) v (by rw [h2, List.getElem?_append_right (by omega), Nat.add_sub_cancel_left, List.getElem?_append_left (List.getElem?_eq_some_iff.1 hv).1]; exact hv)
  rwa [h1, show off + (10 + 7 * k + j) = off + 10 + k * 7 + j by omega] at this
theorem ReadsL.of_own {w : World} {base : Nat} {t : TypeId} {v : Value} {xs : List PlM} {n : Nat} (h : w.ownsRow base t 9 v n (pls xs)) (hn : n = xs.length) : ∃ A cap, v = .slice A xs.length cap ∧ ReadsL w A xs.length cap xs := by
  subst hn
  have h0 := h
  rcases h.2 with ⟨rfl, e⟩ | ⟨g, cap, cur, rfl, _⟩
  · have : xs = [] := List.eq_nil_of_length_eq_zero e
    subst this
    exact ⟨Option.none, 0, rfl, ReadsL.none w⟩
  · obtain ⟨rest, hA, _, h2, h3, _⟩ := at_of_own h0
    exact ⟨_, cap, rfl, ReadsL.of_at hA h2 h3⟩
theorem lFind_at {xs : List PlM} {s : BitVec 32} : ∀ {j : Nat}, j < xs.length → (∀ k, k < j → (plN xs k).p.s ≠ s) → (plN xs j).p.s = s → lFind xs s = some (plN xs j) := by
  induction xs with
  | nil => intro j h; simp at h
  | cons x xs ih =>
    intro j h hb hj
    unfold lFind
    rw [List.find?_cons]
    cases j with
    | zero =>
      have : (plN (x :: xs) 0) = x := rfl
      rw [this] at hj ⊢
      simp [hj]
    | succ j =>
      have h0 := hb 0 (by omega)
      have : (plN (x :: xs) 0) = x := rfl
      rw [this] at h0
      have e : plN (x :: xs) (j + 1) = plN xs j := by unfold plN; simp
      rw [e] at hj ⊢
      have := ih (j := j) (by simpa using h) (fun k hk => by have := hb (k + 1) (by omega); rwa [show plN (x :: xs) (k + 1) = plN xs k by unfold plN; simp] at this) hj
      unfold lFind at this
      simp [h0, this]
theorem lFind_no {xs : List PlM} {s : BitVec 32} (hb : ∀ k, k < xs.length → (plN xs k).p.s ≠ s) : lFind xs s = none := by
  unfold lFind
  rw [List.find?_eq_none]
  intro y hy
  obtain ⟨k, hk, rfl⟩ := List.getElem_of_mem hy
  have := hb k hk
  unfold plN at this
  rw [List.getD_eq_getElem?_getD, List.getElem?_eq_getElem hk] at this
  simpa using this
theorem fold_step {β : Type} (f : β → PlM → β) (b : β) (xs : List PlM) (j : Nat) (h : j < xs.length) : (xs.take (j + 1)).foldl f b = f ((xs.take j).foldl f b) (plN xs j) := by
  rw [List.take_add_one, plN_get h]
  simp
end Go.Proofs.YtpkkejdjhnmjiaaGreat
