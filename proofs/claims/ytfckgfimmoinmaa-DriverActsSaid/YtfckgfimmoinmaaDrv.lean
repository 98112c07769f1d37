/- The program's contracts of package driver, as the layer's walks ask for them. -/
import Derived.Test.YtfckgfimmoinmaaDrvPA
import Derived.Test.YtfckgfimmoinmaaDrvP6
import Derived.Test.YtfckgfimmoinmaaDrvPB
import Derived.Test.YtfckgfimmoinmaaCfiMap
namespace Go.Proofs.Ytfckgfimmoinmaa
open Go.RowKit Bm

section
variable {B p f q k : Nat} {K : Nat → Prop} {d : DrvM} {w w' : World}
/-- .. of words that were written out just now. -/
theorem Dv.programNew (s : Dv B p f q k K d w) (ok : DrvOk k d) (a : Int) (xs : List (BitVec 32)) (hn : xs.length ≤ 1000) (a0 : -1125899906842624 ≤ a) (a1 : a ≤ 1125899906842624) (t0 : 0 ≤ d.t) (t1 : d.t ≤ 100000000000000) :
    Calls Try.prog 28 #[.pointer (some ⟨q, 0, none⟩), .int .i64 a, .slice (some ⟨w.heap.size, 0, none⟩) xs.length xs.length] (w.alloc (.cells (Us xs).toArray 33)) (DvOut B p f q k K (dProgram d a xs).1 (.int .i64 (dProgram d a xs).2) w) := by
  have hb : Below w.heap.size w (w.alloc (.cells (Us xs).toArray 33)) := (Below.refl _ w).alloc (Nat.le_refl _) _
  have s' := s.more hb w.heap.size (Nat.le_refl _) (by simp)
  have hr : ReadsU (w.alloc (.cells (Us xs).toArray 33)) (some ⟨w.heap.size, 0, none⟩) xs.length xs.length xs := ReadsU.of_at (rest := []) (by simpa using At.news w 33 (Us xs)) (by simp [Us_length]) (by unfold maxLen; omega)
  refine (s'.program ok a _ _ _ xs hr hn a0 a1 t0 t1 (fun _ g e => ?_)).mono ?_
  · injection e with e
    rw [← e]
    exact fun h => h.2 (.inr rfl)
  · rintro e w' ⟨rfl, s2, t⟩
    exact ⟨rfl, s2.less (fun i h => .inl h), (Turned.of_below hb (Nat.le_refl _) _).trans (may_less t (fun i h => .inl h))⟩
theorem Dv.ticks (s : Dv B p f q k K d w) (_ok : DrvOk k d) : Calls Try.prog 30 #[.pointer (some ⟨q, 0, none⟩)] w fun e w' => e = .returned (.int .i64 d.t) ∧ Below w.heap.size w w' :=
  s.ticks0.mono fun _ _ h => ⟨h.1, by rw [h.2]; exact Below.refl _ _⟩
theorem Dv.blocks (s : Dv B p f q k K d w) (_ok : DrvOk k d) : Calls Try.prog 35 #[.pointer (some ⟨q, 0, none⟩)] w fun e w' => e = .returned (.int .i64 k) ∧ Below w.heap.size w w' :=
  s.blocks0.mono fun _ _ h => ⟨h.1, by rw [h.2]; exact Below.refl _ _⟩
end
end Go.Proofs.Ytfckgfimmoinmaa
