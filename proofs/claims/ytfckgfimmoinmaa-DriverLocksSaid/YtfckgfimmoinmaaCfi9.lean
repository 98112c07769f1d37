/- The contracts of package cfi's Reset and New, and of the statements' Begin. -/
import Derived.Test.YtfckgfimmoinmaaCfi8
import Derived.Carry
namespace Go.Proofs.Ytfckgfimmoinmaa
open Go.RowKit Bm

theorem made_raw (h : Fh) (cs : List Value) (w : World) (x : At w h.f 97 (.pointer (some ⟨h.c.p, 0, none⟩) :: cs)) :
    Calls Try.prog 50 #[.pointer (some ⟨h.f, 0, none⟩)] w fun e w' => e = .returned (.bool true) ∧ w' = w := by
  have g := x.cell 0
  simp only [List.getElem?_cons_zero] at g
  clear x
  go_enter Try.func50, Try.ntmps50
  go_wp2
  go_ret
  exact ⟨rfl, rfl⟩

/-- The flash is as new, with locks of its own that were made. -/
def Renewed (h : Fh) (c : ChipM) (w : World) (e : Ending) (w' : World) : Prop :=
  e = .returned (.tuple #[]) ∧ FlashAt w' { h with l := w.heap.size } (fNew c) ∧ Turned (Just h.f) w w'

def sets7 (w : World) (f p l : Nat) : World :=
  ((((((w.setCell ⟨f, 0, none⟩ (.pointer (some ⟨p, 0, none⟩))).setCell ⟨f, 1, none⟩ (.int .i64 0)).setCell ⟨f, 2, none⟩ .nilFunc).setCell ⟨f, 3, none⟩ (.int .u32 0)).setCell ⟨f, 4, none⟩ (.map (some l))).setCell ⟨f, 5, none⟩ (.int .i64 0)).setCell ⟨f, 6, none⟩ .nilFunc
theorem sets7_turned (w : World) (f p l : Nat) : Turned (Just f) w (sets7 w f p l) :=
  (((((((Turned.refl (Just f) w).setCell (p := ⟨f, 0, none⟩) (fun _ => rfl) _).setCell (p := ⟨f, 1, none⟩) (fun _ => rfl) _).setCell (p := ⟨f, 2, none⟩) (fun _ => rfl) _).setCell (p := ⟨f, 3, none⟩) (fun _ => rfl) _).setCell (p := ⟨f, 4, none⟩) (fun _ => rfl) _).setCell (p := ⟨f, 5, none⟩) (fun _ => rfl) _).setCell (p := ⟨f, 6, none⟩) (fun _ => rfl) _
theorem sets7_at {w : World} {f p l : Nat} {t : TypeId} {v0 v1 v2 v3 v4 v5 v6 : Value} (x : At w f t [v0, v1, v2, v3, v4, v5, v6]) :
    At (sets7 w f p l) f t [.pointer (some ⟨p, 0, none⟩), .int .i64 0, .nilFunc, .int .u32 0, .map (some l), .int .i64 0, .nilFunc] :=
  (((((((x.put 0 _).put 1 _).put 2 _).put 3 _).put 4 _).put 5 _).put 6 _).as rfl
theorem sets7_size (w : World) (f p l : Nat) : (sets7 w f p l).heap.size = w.heap.size := by simp [sets7, World.setCell]

theorem renewed_mk {w : World} {h : Fh} {c : ChipM} {v0 v1 v2 v3 v4 v5 v6 : Value} (hc : ChipAt w h.c c) (x : At w h.f 97 [v0, v1, v2, v3, v4, v5, v6]) :
    Renewed h c w (.returned (.tuple #[])) ((sets7 w h.f h.c.p w.heap.size).alloc (.map #[] 0)) := by
  have t := sets7_turned w h.f h.c.p w.heap.size
  have n1 : h.f ≠ h.c.p := x.ne hc.own (by decide)
  have n2 : h.f ≠ h.c.bw := x.ne hc.words (by decide)
  have n3 : h.f ≠ h.c.be := x.ne hc.wear (by decide)
  have l := LocksAt.news (sets7 w h.f h.c.p w.heap.size)
  rw [sets7_size] at l
  exact ⟨rfl, ⟨(hc.kept t (by rintro i (e | e | e) e2 <;> unfold Just at e2 <;> omega)).alloc _, ((sets7_at x).alloc _).as rfl, l, ⟨fun e => (by cases e), fun e => (by cases e)⟩⟩, t.alloc _⟩

set_option maxRecDepth 100000 in
set_option maxHeartbeats 2000000 in
theorem reset_raw (h : Fh) (c : ChipM) (v1 v2 v3 v4 v5 v6 : Value) (w : World) (hc : ChipAt w h.c c) (x : At w h.f 97 [.pointer (some ⟨h.c.p, 0, none⟩), v1, v2, v3, v4, v5, v6]) :
    Calls Try.prog 25 #[.pointer (some ⟨h.f, 0, none⟩)] w (Renewed h c w) := by
  have g0 := x.cell 0
  have g1 := x.cell 1
  have g2 := x.cell 2
  have g3 := x.cell 3
  have g4 := x.cell 4
  have g5 := x.cell 5
  have g6 := x.cell 6
  simp only [List.getElem?_cons_zero, List.getElem?_cons_succ] at g0 g1 g2 g3 g4 g5 g6
  have f0 := x.frozen 0
  have f1 := x.frozen 1
  have f2 := x.frozen 2
  have f3 := x.frozen 3
  have f4 := x.frozen 4
  have f5 := x.frozen 5
  have f6 := x.frozen 6
  have hmm := @run_makeMap Try.prog
  have hf := x.lt
  have hne : h.f ≠ w.heap.size := by omega
  have X := Lib.hid x
  have HC := Lib.hid hc
  clear x hc
  go_enter Try.func25, Try.ntmps25
  go_wp2_with (go_at_call 50; (with_reducible refine (made_raw _ _ _ X.out).mono ?_); rintro e w' ⟨rfl, rfl⟩)
  go_end0
  exact renewed_mk HC.out X.out

theorem freset_any (h : Fh) (m : FlashM) (w : World) (x : FlashAt w h m) :
    Calls Try.prog 25 #[.pointer (some ⟨h.f, 0, none⟩)] w (Renewed h m.chip w) :=
  reset_raw h m.chip _ _ _ _ _ _ w x.chip x.own

/-- A flash that a call made. -/
def MadeFlash (w : World) (c : ChipM) (h : Hd) (e : Ending) (w' : World) : Prop :=
  ∃ f l, e = .returned (.pointer (some ⟨f, 0, none⟩)) ∧ FlashAt w' ⟨h, f, l, 0, 0, 0⟩ (fNew c) ∧ w.heap.size ≤ f ∧ w.heap.size ≤ l ∧ Below w.heap.size w w'

set_option maxRecDepth 100000 in
set_option maxHeartbeats 2000000 in
theorem fnew_any (h : Hd) (c : ChipM) (w : World) (hc : ChipAt w h c) (h1 : 1 ≤ c.wear.length) :
    Calls Try.prog 37 #[.pointer (some ⟨h.p, 0, none⟩)] w (MadeFlash w c h) := by
  have z : ((c.wear.length : Int) == 0) = false := by rw [beq_eq_false_iff_ne]; omega
  have HC := Lib.hid hc
  clear hc h1
  go_enter Try.func37, Try.ntmps37
  go_wp2_with (go_at_call 49; (with_reducible refine (blocks_any _ _ _ HC.out).mono ?_); rintro e w' ⟨rfl, rfl⟩)
  have hx := reset_raw ⟨h, w'.heap.size, 0, 0, 0, 0⟩ c (.int .i64 0) .nilFunc (.int .u32 0) (.map none) (.int .i64 0) .nilFunc _ (HC.out.alloc (.cells #[.pointer (some ⟨h.p, 0, none⟩), .int .i64 0, .nilFunc, .int .u32 0, .map none, .int .i64 0, .nilFunc] 97)) (At.alloc_new _ _ _ rfl rfl)
  refine hx.mono ?_
  rintro e w1 ⟨rfl, x1, t1⟩
  have X1 := Lib.hid x1
  have T1 := Lib.hid t1
  clear hx x1 t1
  go_wp2
  go_ret
  refine ⟨_, _, rfl, X1.out, Nat.le_refl _, by rw [World.size_alloc]; omega, ?_⟩
  exact (((Turned.refl NoBlock w').alloc _).after T1.out (fun i hi e => by unfold Just at e; omega)).below (fun _ h => h.elim) (Nat.le_refl _)

/-- A chip and its flash that a call made. -/
def MadeBoth (w : World) (c : ChipM) (e : Ending) (w' : World) : Prop :=
  ∃ h : Fh, e = .returned (.tuple #[.pointer (some ⟨h.c.p, 0, none⟩), .pointer (some ⟨h.f, 0, none⟩)]) ∧ FlashAt w' h (fNew c) ∧ (∀ i, h.own i → w.heap.size ≤ i) ∧ Below w.heap.size w w'

set_option maxRecDepth 100000 in
set_option maxHeartbeats 2000000 in
theorem begin_any (k : Nat) (endure : Int) (w : World) (k1 : 1 ≤ k) (k2 : k ≤ 64) (e0 : 0 ≤ endure) (e1 : endure ≤ 9223372036854775807) :
    Calls Try.prog 12 #[.int .i64 k, .int .i64 endure] w (MadeBoth w (mNew k endure)) := by
  have hl : 1 ≤ (mNew k endure).wear.length := by simp [mNew, mOf]; omega
  have hn := new_yes k endure w k1 k2 e0 e1
  generalize mNew k endure = c at hl hn ⊢
  have HN := Lib.hid hn
  have HL := Lib.hid hl
  clear hn hl k1 k2 e0 e1
  go_enter Try.func12, Try.ntmps12
  go_wp2_with fail
  refine HN.out.mono ?_
  rintro e w1 ⟨h, rfl, hc, ho, hB⟩
  have HC := Lib.hid hc
  have HO := Lib.hid ho
  have HB := Lib.hid hB
  clear hc ho hB
  go_wp2_with fail
  refine (fnew_any h c w1 HC.out HL.out).mono ?_
  rintro e w2 ⟨f, l, rfl, x2, hf, hl2, hB2⟩
  have X2 := Lib.hid x2
  have HB2 := Lib.hid hB2
  clear x2 hB2
  go_wp2
  go_ret2
  refine ⟨⟨h, f, l, 0, 0, 0⟩, rfl, X2.out, ?_, HB.out.trans (HB2.out.mono HB.out.size)⟩
  have hs := HB.out.size
  rintro i (e | e | e)
  · exact HO.out i e
  · simp only at e; omega
  · simp only at e; omega
end Go.Proofs.Ytfckgfimmoinmaa
