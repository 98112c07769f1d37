/- Contracts of package driver's helpers: made, write and the step that it makes, wait, check. -/
import Derived.Test.YtfckgfimmoinmaaDrvDv
import Derived.Deep.LoopGhost
import Derived.Deep.Light
import Derived.Laws.EntriesVeiled
namespace Go.Proofs.Ytfckgfimmoinmaa
open Go.RowKit Bm

theorem U_and50 (x : BitVec 32) : bits .and .u32 (U x) 50 = U (x &&& 50#32) := U_and x 50#32
theorem U_and2 (x : BitVec 32) : bits .and .u32 (U x) 2 = U (x &&& 2#32) := U_and x 2#32
theorem U_and48 (x : BitVec 32) : bits .and .u32 (U x) 48 = U (x &&& 48#32) := U_and x 48#32
attribute [local go_sem] U_and50 U_and2 U_and48 U_and128

section
variable {B p f q k : Nat} {K : Nat → Prop} {d : DrvM} {w w' : World}
theorem Dv.made (s : Dv B p f q k K d w) : Calls Try.prog 39 #[.pointer (some ⟨q, 0, none⟩)] w fun e w' => e = .returned (.bool true) ∧ w' = w := by
  have g := s.own.cell 0
  simp only [drvCells, List.getElem?_cons_zero] at g
  clear s
  go_enter Try.func39, Try.ntmps39
  go_wp2
  go_ret
  exact ⟨rfl, rfl⟩
theorem nod_made {v : Value} (h : NoDrv w v) : Calls Try.prog 39 #[v] w fun e w' => e = .returned (.bool false) ∧ w' = w := by
  rcases h with rfl | ⟨g, rfl, h⟩
  · go_enter Try.func39, Try.ntmps39
    go_wp2
    go_ret
    exact ⟨rfl, rfl⟩
  · have g0 := h.cell 0
    simp only [zeroDrv, List.getElem?_cons_zero] at g0
    clear h
    go_enter Try.func39, Try.ntmps39
    go_wp2
    go_ret
    exact ⟨rfl, rfl⟩

/-! ### What write makes -/
/-- The three variables of a step that writes, made one behind the other. -/
def wrW (w : World) (v : Value) (a x : Int) : World := ((w.alloc (.cells #[v] 29)).alloc (.cells #[.int .i64 a] 3)).alloc (.cells #[.int .u32 x] 33)
def wrA (n : Nat) : Array Value := #[.pointer (some ⟨n, 0, none⟩), .pointer (some ⟨n + 1, 0, none⟩), .pointer (some ⟨n + 2, 0, none⟩)]
theorem wrW_size (w : World) (v : Value) (a x : Int) : (wrW w v a x).heap.size = w.heap.size + 3 := by simp [wrW]
theorem wrW_below (w : World) (v : Value) (a x : Int) : Below w.heap.size w (wrW w v a x) := by
  have b1 := (Below.refl w.heap.size w).alloc (Nat.le_refl _) (.cells #[v] 29)
  have b2 := b1.alloc b1.size (.cells #[.int .i64 a] 3)
  exact b2.alloc b2.size _
structure WrAt (w : World) (q n : Nat) (a x : Int) : Prop where
  d : At w n 29 [.pointer (some ⟨q, 0, none⟩)]
  a : At w (n + 1) 3 [.int .i64 a]
  x : At w (n + 2) 33 [.int .u32 x]
theorem WrAt.below {n : Nat} {a x : Int} (h : WrAt w q n a x) (b : Below w.heap.size w w') : WrAt w' q n a x :=
  ⟨h.d.kept (Turned.of_below b (Nat.le_refl _) NoBlock) (fun h => h), h.a.kept (Turned.of_below b (Nat.le_refl _) NoBlock) (fun h => h), h.x.kept (Turned.of_below b (Nat.le_refl _) NoBlock) (fun h => h)⟩
theorem WrAt.kept {n : Nat} {a x : Int} {S : Nat → Prop} (h : WrAt w q n a x) (t : Turned S w w') (h0 : ¬ S n) (h1 : ¬ S (n + 1)) (h2 : ¬ S (n + 2)) : WrAt w' q n a x :=
  ⟨h.d.kept t h0, h.a.kept t h1, h.x.kept t h2⟩
theorem wrW_at (w : World) (a x : Int) : WrAt (wrW w (.pointer (some ⟨q, 0, none⟩)) a x) q w.heap.size a x :=
  ⟨((At.news w 29 [.pointer (some ⟨q, 0, none⟩)]).alloc _).alloc _,
   (At.alloc_new _ _ _ (by rw [World.size_alloc]) rfl).alloc _,
   At.alloc_new _ _ _ (by rw [World.size_alloc, World.size_alloc]) rfl⟩
theorem dwrite_any (v : Value) (a x : Int) (w : World) (hv : ∃ g, v = .pointer (some ⟨g, 0, none⟩)) : Calls Try.prog 41 #[v, .int .i64 a, .int .u32 x] w fun e w' => e = .returned (.func (.func 54) #[] (wrA w.heap.size)) ∧ w' = wrW w v a x := by
  obtain ⟨g, rfl⟩ := hv
  go_enter Try.func41, Try.ntmps41
  go_wp2
  go_ret
  exact ⟨rfl, rfl⟩

set_option maxRecDepth 100000 in
set_option maxHeartbeats 1000000 in
/-- A step that writes. -/
theorem Dv.wstep (s : Dv B p f q k K d w) (ok : FlashOk k d.f) (n : Nat) (a xi : Int) (x : BitVec 32) (hx : U x = xi) (h : WrAt w q n a xi) :
    Calls Try.prog 54 (wrA n) w (DvOut B p f q k K ⟨(fWrite d.f a x).1, d.t⟩ (.int .i64 (fWrite d.f a x).2) w) := by
  have g0 := s.own.cell 0
  have c0 := h.d.cell 0
  have c1 := h.a.cell 0
  have c2 := h.x.cell 0
  simp only [drvCells, List.getElem?_cons_zero] at g0 c0 c1 c2
  have SD : Hid (Dv B p f q k K d w.drew) := Lib.hid (s.below (below_drewN w.heap.size w 1))
  have hp := SD.out.st.write ok a x
  rw [hx] at hp
  have HP := Lib.hid hp
  have S := Lib.hid s
  clear hp h s hx ok
  change Calls _ _ #[.pointer (some ⟨n, 0, none⟩), .pointer (some ⟨n + 1, 0, none⟩), .pointer (some ⟨n + 2, 0, none⟩)] _ _
  go_enter Try.func54, Try.ntmps54
  go_wp2
  refine wp_region_still_tail 6 (by kernel_rfl) (by kernel_rfl) ?_
  simp only [List.take_succ_cons, List.take_zero, List.drop_succ_cons, List.drop_zero]
  change wpStill _ _ (World.drew _) _ _ _
  repeat still_step
  refine wpStill_nil ?_
  change wpList _ _ _ _ _ (World.drew _)
  go_wp2_with (go_at_call 55; (with_reducible refine HP.out.mono ?_); rintro e w1 ⟨rfl, s1, t1⟩)
  go_ret
  have o1 := SD.out.own.kept t1 (fun e => e.2 (.inr rfl))
  exact ⟨rfl, ⟨s1, o1, S.out.qB⟩, (Turned.of_below (below_drewN w.heap.size w 1) (Nat.le_refl _) _).trans (may_less t1 (fun i h => .inl h))⟩
end
end Go.Proofs.Ytfckgfimmoinmaa
