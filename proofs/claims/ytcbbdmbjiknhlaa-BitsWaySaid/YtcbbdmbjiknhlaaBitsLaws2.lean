/- The walks of layer bits' statements against the document's own answers: each statement's function returns true, whatever it is given. -/
import Derived.Test.YtcbbdmbjiknhlaaBitsLaws
import Derived.Test.YtcbbdmbjiknhlaaBitsRef
import Derived.Deep.Draws
import Derived.Deep.OwnRows
namespace Go.Proofs.Ytcbbdmbjiknhlaa
open Go.RowKit Bm

theorem bitsSigns_walk (a0 : Int) (a1 : Int) (a2 : Int) (w0 : (Lit.int .u32 a0).wf = true) (w1 : (Lit.int .u32 a1).wf = true) (w2 : (Lit.int .i64 a2).wf = true) (w : World) :
    Calls Try.prog 4 #[.int .u32 a0, .int .u32 a1, .int .i64 a2] w fun e w' => e = .returned (.bool true) ∧ Grown w w' := by
  have b0 := bounds_u32 w0
  have b1 := bounds_u32 w1
  have b2 := bounds_i64 w2
  obtain ⟨x, rfl⟩ := U_of b0.1 (by omega)
  obtain ⟨y, rfl⟩ := U_of b1.1 (by omega)
  clear w0 w1 w2 b0 b1
  obtain ⟨hl, hh⟩ := b2
  obtain ⟨z, hz⟩ := U_of (a := a2 % 4294967296) (by omega) (by omega)
  go_enter Try.func4, Try.ntmps4
  go_wp2_with (first
    | (go_at_call 10; refine (alive_any _).mono ?_; rintro e w' ⟨rfl, n, rfl⟩)
    | (go_at_call 15; with_reducible refine (sign_any _ _ _ hl hh).mono ?_; rintro e w' ⟨rfl, rfl⟩)
    | (go_at_call 16; with_reducible refine (rsign_any _ _ _).mono ?_; rintro e w' ⟨rfl, rfl⟩)
    | (go_at_call 17; with_reducible refine (partial_any _ _ _ _).mono ?_; rintro e w' ⟨rfl, rfl⟩)
    | (go_at_call 18; with_reducible refine (rpartial_any _ _ _ _).mono ?_; rintro e w' ⟨rfl, rfl⟩)
    | (go_at_call 19; with_reducible refine (turn_any _ _ _).mono ?_; rintro e w' ⟨rfl, n, rfl⟩)
    | (go_at_call 20; with_reducible refine (rturn_any _ _ _).mono ?_; rintro e w' ⟨rfl, rfl⟩))
  go_ret
  exact ⟨rfl, grown_drewN _ _⟩

theorem grown_trans {a b c : World} (h : Grown a b) (k : Grown b c) : Grown a c :=
  ⟨World.keptBut_trans h.1 k.1, fun x => (k.2.1 x).trans (h.2.1 x), Nat.le_trans h.2.2 k.2.2⟩

/-- A struct of two numbers comes by value: its cells are laid in a new block. -/
theorem bitsTells_walk (a0 s0 s1 a2 : Int) (w0 : (Lit.int .u32 a0).wf = true) (v0 : (Lit.int .i64 s0).wf = true) (w2 : (Lit.int .u32 a2).wf = true) (w : World) :
    Calls Try.prog 3 #[.int .u32 a0, .agg #[.int .i64 s0, .int .i64 s1], .int .u32 a2] w fun e w' => e = .returned (.bool true) ∧ Grown w w' := by
  have b0 := bounds_u32 w0
  have b1 := bounds_i64 v0
  have b2 := bounds_u32 w2
  obtain ⟨x, rfl⟩ := U_of b0.1 (by omega)
  obtain ⟨y, rfl⟩ := U_of b2.1 (by omega)
  clear w0 w2 b0 b2 v0
  obtain ⟨hl, hh⟩ := b1
  go_enter Try.func3, Try.ntmps3
  go_wp2_with (first
    | (go_at_call 10; refine (alive_any _).mono ?_; rintro e w' ⟨rfl, n, rfl⟩)
    | (go_at_call 11; with_reducible refine (field_any _ _ _ _ hl hh).mono ?_; rintro e w' ⟨rfl, rfl⟩)
    | (go_at_call 12; with_reducible refine (rfield_any _ _ _ _ hl hh).mono ?_; rintro e w' ⟨rfl, rfl⟩)
    | (go_at_call 13; with_reducible refine (put_any _ _ _ _ _ hl hh).mono ?_; rintro e w' ⟨rfl, rfl⟩)
    | (go_at_call 14; with_reducible refine (rput_any _ _ _ _ _ hl hh).mono ?_; rintro e w' ⟨rfl, rfl⟩))
  have c0 : ((w.alloc (Obj.cells #[Value.int IntKind.i64 s0, Value.int IntKind.i64 s1] 24)).drewN n).cell? ⟨w.heap.size, 0, none⟩ = some (.int .i64 s0) := by simp
  have c1 : ((w.alloc (Obj.cells #[Value.int IntKind.i64 s0, Value.int IntKind.i64 s1] 24)).drewN n).cell? ⟨w.heap.size, 1, none⟩ = some (.int .i64 s1) := by simp
  have G : Grown w ((w.alloc (Obj.cells #[Value.int IntKind.i64 s0, Value.int IntKind.i64 s1] 24)).drewN n) := grown_trans ((Grown.refl w).alloc _ _) (grown_drewN _ _)
  generalize (w.alloc (Obj.cells #[Value.int IntKind.i64 s0, Value.int IntKind.i64 s1] 24)).drewN n = W at *
  go_quiet ((first
    | (go_at_call 11; (with_reducible refine (field_any _ _ _ _ hl hh).mono ?_); exact fun _ _ h => ⟨h.1, _, h.2⟩)
    | (go_at_call 12; (with_reducible refine (rfield_any _ _ _ _ hl hh).mono ?_); exact fun _ _ h => ⟨h.1, _, h.2⟩)
    | (go_at_call 13; (with_reducible refine (put_any _ _ _ _ _ hl hh).mono ?_); exact fun _ _ h => ⟨h.1, _, h.2⟩)
    | (go_at_call 14; (with_reducible refine (rput_any _ _ _ _ _ hl hh).mono ?_); exact fun _ _ h => ⟨h.1, _, h.2⟩)))
  go_wp2
  go_ret
  exact ⟨rfl, grown_trans G (grown_drewN _ _)⟩

theorem U_zero : U 0#32 = 0 := rfl
theorem partial_ones (f t : BitVec 32) (w : World) :
    Calls Try.prog 17 #[.int .u32 (U f), .int .u32 (U t), .int .u32 4294967295] w fun e w' => e = .returned (.int .u32 (U (partB f t 4294967295#32))) ∧ w' = w :=
  partial_any f t 4294967295#32 w
theorem partial_zero (f t : BitVec 32) (w : World) :
    Calls Try.prog 17 #[.int .u32 (U f), .int .u32 (U t), .int .u32 0] w fun e w' => e = .returned (.int .u32 (U (partB f t 0#32))) ∧ w' = w :=
  partial_any f t 0#32 w

set_option maxHeartbeats 1000000 in
/-- An array of two words comes by value: its cells are laid in a new block. -/
theorem bitsWay_walk (a0 a1 p0 p1 : Int) (w0 : (Lit.int .u32 a0).wf = true) (w1 : (Lit.int .u32 a1).wf = true) (v0 : (Lit.int .u32 p0).wf = true) (v1 : (Lit.int .u32 p1).wf = true) (w : World) :
    Calls Try.prog 6 #[.int .u32 a0, .int .u32 a1, .agg #[.int .u32 p0, .int .u32 p1]] w fun e w' => e = .returned (.bool true) ∧ Grown w w' := by
  have b0 := bounds_u32 w0
  have b1 := bounds_u32 w1
  have b2 := bounds_u32 v0
  have b3 := bounds_u32 v1
  obtain ⟨x, rfl⟩ := U_of b0.1 (by omega)
  obtain ⟨y, rfl⟩ := U_of b1.1 (by omega)
  obtain ⟨p, rfl⟩ := U_of b2.1 (by omega)
  obtain ⟨q, rfl⟩ := U_of b3.1 (by omega)
  clear w0 w1 v0 v1 b0 b1 b2 b3
  have e1 : partB x y 4294967295#32 = y := way1 x y
  have e2 := way2 x y
  have e3 := way3 x y p q
  have e4 := way4 x y p
  have e5 := U_zero
  go_enter Try.func6, Try.ntmps6
  go_wp2_with (first
    | (go_at_call 10; refine (alive_any _).mono ?_; rintro e w' ⟨rfl, n, rfl⟩)
    | (go_at_call 17; with_reducible refine (partial_any _ _ _ _).mono ?_; rintro e w' ⟨rfl, rfl⟩))
  have c0 : ((w.alloc (Obj.cells #[Value.int IntKind.u32 (U p), Value.int IntKind.u32 (U q)] 33)).drewN n).cell? ⟨w.heap.size, 0, none⟩ = some (.int .u32 (U p)) := by simp
  have c1 : ((w.alloc (Obj.cells #[Value.int IntKind.u32 (U p), Value.int IntKind.u32 (U q)] 33)).drewN n).cell? ⟨w.heap.size, 1, none⟩ = some (.int .u32 (U q)) := by simp
  have G : Grown w ((w.alloc (Obj.cells #[Value.int IntKind.u32 (U p), Value.int IntKind.u32 (U q)] 33)).drewN n) := grown_trans ((Grown.refl w).alloc _ _) (grown_drewN _ _)
  generalize (w.alloc (Obj.cells #[Value.int IntKind.u32 (U p), Value.int IntKind.u32 (U q)] 33)).drewN n = W at *
  go_quiet ((first
    | (go_at_call 17; (with_reducible refine (partial_ones _ _ _).mono ?_); exact fun _ _ h => ⟨h.1, _, h.2⟩)
    | (go_at_call 17; (with_reducible refine (partial_zero _ _ _).mono ?_); exact fun _ _ h => ⟨h.1, _, h.2⟩)
    | (go_at_call 17; (with_reducible refine (partial_any _ _ _ _).mono ?_); exact fun _ _ h => ⟨h.1, _, h.2⟩)))
  go_wp2
  go_ret
  exact ⟨rfl, grown_trans G (grown_drewN _ _)⟩
end Go.Proofs.Ytcbbdmbjiknhlaa
