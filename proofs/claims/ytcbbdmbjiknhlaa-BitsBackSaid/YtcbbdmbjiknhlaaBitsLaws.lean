/- The walks of layer bits' statements over integers: each statement's function returns true, whatever it is given. -/
import Derived.Test.YtcbbdmbjiknhlaaBitsAlive
import Derived.Test.YtcbbdmbjiknhlaaBitsLawMath
import Derived.OpenShut
namespace Go.Proofs.Ytcbbdmbjiknhlaa
open Go.RowKit Bm

theorem grown_drewN (w : World) (n : Nat) : Grown w (w.drewN n) := by
  have h : ∀ n, Grown w (w.drewN n) := by
    intro n
    induction n with
    | zero => exact Grown.refl _
    | succ n ih => exact ih.drew
  exact h n

theorem field_ones (a n : Int) (w : World) (h3 : -9223372036854775808 ≤ a) (h4 : a ≤ 9223372036854775807) :
    Calls Try.prog 11 #[.int .u32 4294967295, .int .i64 a, .int .i64 n] w fun e w' => e = .returned (.int .u32 (U (fieldB (BitVec.allOnes 32) a n))) ∧ w' = w :=
  field_any (BitVec.allOnes 32) a n w h3 h4
theorem put_zero (a n : Int) (v : BitVec 32) (w : World) (h3 : -9223372036854775808 ≤ a) (h4 : a ≤ 9223372036854775807) :
    Calls Try.prog 13 #[.int .u32 0, .int .i64 a, .int .i64 n, .int .u32 (U v)] w fun e w' => e = .returned (.int .u32 (U (putB 0#32 a n v))) ∧ w' = w :=
  put_any 0#32 a n v w h3 h4

theorem bitsBack_walk (a0 : Int) (a1 : Int) (a2 : Int) (w0 : (Lit.int .u32 a0).wf = true) (w1 : (Lit.int .u8 a1).wf = true) (w2 : (Lit.int .u8 a2).wf = true) (w : World) :
    Calls Try.prog 5 #[.int .u32 a0, .int .u8 a1, .int .u8 a2] w fun e w' => e = .returned (.bool true) ∧ Grown w w' := by
  have b0 := bounds_u32 w0
  have b1 := bounds_u8 w1
  have b2 := bounds_u8 w2
  obtain ⟨x, rfl⟩ := U_of b0.1 (by omega)
  clear w0 w1 w2 b0
  obtain ⟨a, ha⟩ : ∃ a, a1 % 32 = a := ⟨_, rfl⟩
  obtain ⟨n, hn⟩ : ∃ n, a2 % 33 = n := ⟨_, rfl⟩
  have p1 : 0 ≤ a := by omega
  have p2 : a < 32 := by omega
  have p3 : 0 ≤ n := by omega
  have p4 : n < 33 := by omega
  have e1 := back1 x a n p1 p2
  have e2 := back2 x (~~~fieldB x a n) a n
  have e3 := back3 x (~~~fieldB x a n) a n
  have e4 := back4 x (~~~fieldB x a n) a n
  go_enter Try.func5, Try.ntmps5
  go_wp2_with (first
    | (go_at_call 10; refine (alive_any _).mono ?_; rintro e w' ⟨rfl, n, rfl⟩)
    | (go_at_call 11; with_reducible refine (field_any _ _ _ _ (by omega) (by omega)).mono ?_; rintro e w' ⟨rfl, rfl⟩)
    | (go_at_call 11; with_reducible refine (field_ones _ _ _ (by omega) (by omega)).mono ?_; rintro e w' ⟨rfl, rfl⟩)
    | (go_at_call 13; with_reducible refine (put_any _ _ _ _ _ (by omega) (by omega)).mono ?_; rintro e w' ⟨rfl, rfl⟩))
  go_ret
  exact ⟨rfl, grown_drewN _ _⟩

theorem bitsParts_walk (a0 : Int) (a1 : Int) (w0 : (Lit.int .u32 a0).wf = true) (w1 : (Lit.int .u8 a1).wf = true) (w : World) :
    Calls Try.prog 8 #[.int .u32 a0, .int .u8 a1] w fun e w' => e = .returned (.bool true) ∧ Grown w w' := by
  have b0 := bounds_u32 w0
  have b1 := bounds_u8 w1
  obtain ⟨x, rfl⟩ := U_of b0.1 (by omega)
  clear w0 w1 b0
  obtain ⟨k, hk⟩ : ∃ k, a1 % 33 = k := ⟨_, rfl⟩
  have p1 : 0 ≤ k := by omega
  have p2 : k < 33 := by omega
  have e1 := parts1 x k p1 p2
  have e2 := parts2 x k
  go_enter Try.func8, Try.ntmps8
  go_wp2_with (first
    | (go_at_call 10; refine (alive_any _).mono ?_; rintro e w' ⟨rfl, n, rfl⟩)
    | (go_at_call 11; with_reducible refine (field_any _ _ _ _ (by omega) (by omega)).mono ?_; rintro e w' ⟨rfl, rfl⟩)
    | (go_at_call 13; with_reducible refine (put_any _ _ _ _ _ (by omega) (by omega)).mono ?_; rintro e w' ⟨rfl, rfl⟩)
    | (go_at_call 13; with_reducible refine (put_zero _ _ _ _ (by omega) (by omega)).mono ?_; rintro e w' ⟨rfl, rfl⟩))
  go_ret
  exact ⟨rfl, grown_drewN _ _⟩
end Go.Proofs.Ytcbbdmbjiknhlaa
