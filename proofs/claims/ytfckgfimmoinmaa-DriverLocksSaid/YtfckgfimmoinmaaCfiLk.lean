/- The locks of a flash: a map of memory that reads as a list of 64. -/
import Derived.Test.YtfckgfimmoinmaaRows
import Derived.Test.YtfckgfimmoinmaaNor
import Derived.Test.YtfckgfimmoinmaaCfiMath
import Derived.Maps.OwnSet
import Derived.WalkKit
namespace Go.Proofs.Ytfckgfimmoinmaa
open Go.RowKit Go.Maps Bm

theorem lawI : Keyed Try.prog 3 := int_keyed Try.underlying3
theorem zeroU (w : World) : (zeroValue 33).run Try.prog w = .ok (.int .u32 0) w := by kernel_rfl
theorem i_wf (i : Nat) (h : i < 64) : (Lit.int .i64 (i : Int)).wf = true := by
  simp [Lit.wf, IntKind.signed, IntKind.bits, IntKind.min, IntKind.max]; omega
theorem keyI (i : Nat) (h : i < 64) : keyOf Try.prog 3 (.int .i64 (i : Int)) = some (.int .i64 (i : Int)) := keyOf_int_mk Try.underlying3 (i_wf i h)
theorem isKeyI (i : Int) : WideAt.IsKeyLit (.int .i64 i) := by simp [WideAt.IsKeyLit]

def zI (b : Bool) : Int := if b = true then 1 else 0
theorem zI_wf (b : Bool) : (Lit.int .u32 (zI b)).wf = true := by cases b <;> decide

theorem room_of_range : ∀ (n : Nat) (l : List Nat), l.Nodup → (∀ x ∈ l, x < n) → l.length ≤ n
  | 0, l, _, h => by
    cases l with
    | nil => simp
    | cons x r => exact absurd (h x (by simp)) (by omega)
  | n + 1, l, hn, h => by
    have a := room_of_range n (l.erase n) (hn.erase n) (fun x hx => by
      have h1 := (hn.mem_erase_iff).1 hx
      have := h x h1.2
      omega)
    by_cases hm : n ∈ l
    · have b := List.length_erase_of_mem hm
      omega
    · rw [List.erase_of_not_mem hm] at a
      omega

/-- All keys are numbers of blocks. -/
def InRange (D : DataW Unit) : Prop := ∀ es, D = .map es → ∀ p ∈ es, ∃ z : Nat, z < 64 ∧ p.1 = .int .i64 (z : Int)

def keyNat : Lit → Nat
  | .int _ z => z.toNat
  | _ => 0

theorem size_range {D : DataW Unit} (t : Tidy D) (h : InRange D) : Maps.size D ≤ 64 := by
  obtain ⟨es, rfl, hp⟩ := t
  have h := h es rfl
  rw [size_eq]
  have e : es.length = (es.map fun p => keyNat p.1).length := by simp
  rw [e]
  refine room_of_range 64 _ ?_ ?_
  · rw [List.Nodup, List.pairwise_map]
    refine hp.imp_of_mem ?_
    intro a b ha hb hne
    obtain ⟨x, _, hx⟩ := h a ha
    obtain ⟨y, _, hy⟩ := h b hb
    rw [hx, hy] at hne
    rw [hx, hy]
    intro e
    apply hne
    simp only [keyNat, Int.toNat_natCast] at e
    rw [e]
  · intro x hx
    obtain ⟨p, hp, rfl⟩ := List.mem_map.1 hx
    obtain ⟨z, hz, e⟩ := h p hp
    rw [e]
    simpa [keyNat] using hz

theorem InRange.put {D : DataW Unit} (h : InRange D) (i : Nat) (hi : i < 64) (d : DataW Unit) : InRange (D.put (.int .i64 (i : Int)) d) := by
  intro es e p hp
  cases D with
  | map es0 =>
    simp only [DataW.put, DataW.map.injEq] at e
    subst e
    rcases ChangeMaps.mem_insert_iff.1 hp with rfl | hp
    · exact ⟨i, hi, rfl⟩
    · exact h es0 rfl p ((List.mem_filter.1 hp).1)
  | _ => simp only [DataW.put] at e; exact h es e p hp
theorem InRange.del {D : DataW Unit} (h : InRange D) (i : Int) : InRange (D.del (.int .i64 i)) := by
  intro es e p hp
  cases D with
  | map es0 =>
    simp only [DataW.del, DataW.map.injEq] at e
    subst e
    exact h es0 rfl p ((List.mem_filter.1 hp).1)
  | _ => simp only [DataW.del] at e; exact h es e p hp

theorem ownsMap_tight {w : World} {b n : Nat} {D : DataW Unit} (h : w.ownsMap Try.prog 3 (plainElem Try.prog 33) b n D) (hs : Maps.size D ≤ 64) : w.ownsMap Try.prog 3 (plainElem Try.prog 33) b 64 D := by
  obtain ⟨es, clock, hb, F, _, rfl⟩ := h
  refine ⟨es, clock, hb, F, ?_, rfl⟩
  simpa [Maps.size, length_sorted] using hs

/-- Block b is a map that reads as these locks. -/
structure LocksAt (w : World) (b : Nat) (l : List Bool) : Prop where
  ex : ∃ D : DataW Unit, w.ownsMap Try.prog 3 (plainElem Try.prog 33) b 64 D ∧ InRange D ∧ ∀ i : Nat, i < 64 → D.atKey (.int .i64 (i : Int)) (.lit (.int .u32 0)) = .lit (.int .u32 (zI (lk l i)))

theorem LocksAt.lt {w : World} {b : Nat} {l : List Bool} (h : LocksAt w b l) : b < w.heap.size := by
  obtain ⟨D, h1, _⟩ := h
  exact h1.lt
theorem LocksAt.of_block {w w' : World} {b : Nat} {l : List Bool} (h : LocksAt w b l) (e : w'.heap[b]? = w.heap[b]?) : LocksAt w' b l := by
  obtain ⟨D, ⟨es, clock, hb, r⟩, h2⟩ := h
  exact ⟨D, ⟨es, clock, e.trans hb, r⟩, h2⟩
theorem LocksAt.kept {w w' : World} {b : Nat} {l : List Bool} (h : LocksAt w b l) {S : Nat → Prop} (k : Turned S w w') (hS : ¬ S b) : LocksAt w' b l := h.of_block (k.block b h.lt hS)
theorem LocksAt.drewN {w : World} {b : Nat} {l : List Bool} (h : LocksAt w b l) (n : Nat) : LocksAt (w.drewN n) b l := h.of_block rfl
theorem LocksAt.news (w : World) : LocksAt (w.alloc (.map #[] 0)) w.heap.size noLocks := by
  refine ⟨.map [], (World.ownsMap_made w _ _ _).mono (Nat.zero_le _), ?_, ?_⟩
  · intro es e p hp
    simp only [DataW.map.injEq] at e
    subst e
    simp at hp
  · intro i _
    rw [lk_none]
    rfl
theorem LocksAt.ne_cells {w : World} {b g : Nat} {l : List Bool} {t : TypeId} {cs : List Value} (h : LocksAt w b l) (hg : At w g t cs) : g ≠ b := by
  rintro rfl
  obtain ⟨D, ⟨es, clock, hb, _⟩, _⟩ := h
  unfold At at hg
  rw [hb] at hg
  cases hg

/-- What a look-up gives. -/
theorem LocksAt.look {w : World} {b : Nat} {l : List Bool} (h : LocksAt w b l) (i : Nat) (hi : i < 64) :
    (Instr.lookup 93 (.map (some b)) (.int .i64 (i : Int)) false).run Try.prog w = .ok (.int .u32 (zI (lk l i))) w := by
  obtain ⟨D, h1, _, h3⟩ := h
  obtain ⟨c, hrun, hat, _⟩ := h1.lookup_int lawI Try.underlying93 Try.underlying33 (zeroU w) (keyI i hi)
  rw [h3 i hi] at hat
  simp only [DataW.lit.injEq, Lit.int.injEq, true_and] at hat
  rw [hrun, hat]
/-- A lock is set. -/
theorem LocksAt.store {w : World} {b : Nat} {l : List Bool} (h : LocksAt w b l) (i : Nat) (hi : i < 64) (hl : l.length = 64) :
    ∃ w', (Instr.mapUpdate 93 (.map (some b)) (.int .i64 (i : Int)) (.int .u32 1)).run Try.prog w = .ok () w' ∧ LocksAt w' b (l.set i true) ∧ Turned (Just b) w w' := by
  obtain ⟨D, h1, h2, h3⟩ := h
  obtain ⟨w', hrun, ho, ht⟩ := h1.store lawI Try.underlying93 (by unfold maxLen; omega) (keyI i hi) (plainElem_int (H := Unit) Try.underlying33 (q := .u32) (a := 1) (by decide))
  have hin := h2.put i hi (.lit (.int .u32 1))
  refine ⟨w', hrun, ⟨_, ownsMap_tight ho (size_range ((h1.tidy lawI).put (isKeyI _) _) hin), hin, ?_⟩, ?_⟩
  · intro j hj
    by_cases e : i = j
    · subst e
      rw [atKey_put_same h1.isMap (isKeyI _), lk_set_self _ _ _ (by omega)]
      rfl
    · rw [atKey_put_other (by intro e'; simp only [Lit.int.injEq, true_and] at e'; omega), lk_set_other _ _ _ _ e]
      exact h3 j hj
  · exact (Turned.refl _ _).grown ht.grown (fun k hk _ => by simp only [Option.some.injEq] at hk; exact hk.symm)
/-- A lock is taken away. -/
theorem LocksAt.drop {w : World} {b : Nat} {l : List Bool} (h : LocksAt w b l) (i : Nat) (hi : i < 64) (hl : l.length = 64) (ty : TypeId) :
    ∃ w', (Builtin.delete_ #[93, 3] ty #[.map (some b), .int .i64 (i : Int)]).run Try.prog w = .ok (.tuple #[]) w' ∧ LocksAt w' b (l.set i false) ∧ Turned (Just b) w w' := by
  obtain ⟨D, h1, h2, h3⟩ := h
  obtain ⟨w', hrun, ho, ht⟩ := h1.drop lawI Try.underlying93 (keyI i hi) ty
  refine ⟨w', hrun, ⟨_, ho, h2.del _, ?_⟩, ?_⟩
  · intro j hj
    by_cases e : i = j
    · subst e
      rw [atKey_del_same, lk_set_self _ _ _ (by omega)]
      rfl
    · rw [atKey_del_other (by intro e'; simp only [Lit.int.injEq, true_and] at e'; omega), lk_set_other _ _ _ _ e]
      exact h3 j hj
  · exact (Turned.refl _ _).grown ht.grown (fun k hk _ => by simp only [Option.some.injEq] at hk; exact hk.symm)
end Go.Proofs.Ytfckgfimmoinmaa
