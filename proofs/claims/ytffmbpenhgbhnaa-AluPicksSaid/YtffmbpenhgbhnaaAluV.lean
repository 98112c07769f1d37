/- The helpers of layer alu's statements, and the answers that the document fixes. -/
import Derived.Test.YtffmbpenhgbhnaaAluS
import Derived.OpenShut
namespace Go.Proofs.Ytffmbpenhgbhnaa
open Go.RowKit Bm

theorem below_drewN {B : Nat} {a w : World} (h : Below B a w) (n : Nat) : Below B a (w.drewN n) := ⟨h.os, h.tape, h.output, h.size, h.block⟩
theorem minus12_7 (w : World) : Calls Try.prog 25 #[.int .u32 7] w fun e w' => e = .returned (.int .u32 4294967289) ∧ w' = w := by
  go_enter Try.func25, Try.ntmps25
  go_wp2
  go_ret
  exact ⟨rfl, rfl⟩
theorem minus12_3 (w : World) : Calls Try.prog 25 #[.int .u32 3] w fun e w' => e = .returned (.int .u32 4294967293) ∧ w' = w := by
  go_enter Try.func25, Try.ntmps25
  go_wp2
  go_ret
  exact ⟨rfl, rfl⟩
theorem minus12_1 (w : World) : Calls Try.prog 25 #[.int .u32 1] w fun e w' => e = .returned (.int .u32 4294967295) ∧ w' = w := by
  go_enter Try.func25, Try.ntmps25
  go_wp2
  go_ret
  exact ⟨rfl, rfl⟩
/-- What two numbers come to, by a name that has a result. -/
theorem do12_any (n : Int) (a b r : BitVec 32) (h : doM n a b = r) (w : World) : Calls Try.prog 22 #[.int .i64 n, .int .u32 (U a), .int .u32 (U b)] w fun e w' => e = .returned (.int .u32 (U r)) ∧ ∃ k, w' = w.drewN k := by
  subst h
  have HO := Lib.hid (do_any n a b w)
  go_enter Try.func22, Try.ntmps22
  go_wp2_with (go_at_call 12; (with_reducible refine HO.out.mono ?_); rintro e w5 ⟨rfl, k, hq⟩; replace hq := hq.symm; subst hq)
  go_ret
  exact ⟨rfl, k, rfl⟩
theorem fix_alu : doM 42 4294967289#32 2#32 = 4294967293#32 ∧ doIs 42 = true ∧ doM 44 4294967289#32 2#32 = 4294967295#32 ∧ doIs 44 = true ∧ brM 7 4294967295#32 0#32 = true ∧ brIs 7 = true ∧ amM 54 4294967295#32 5#32 = 5#32 ∧ amIs 54 = true ∧
    ldM 11 511#32 = 4294967295#32 ∧ ldIs 11 = true ∧ doM 1 1#32 1#32 = 0#32 ∧ doIs 1 = false ∧ szM 17 = 2 := by decide +kernel
theorem alive12_any (w : World) : Calls Try.prog 11 #[] w fun e w' => e = .returned (.bool true) ∧ ∃ k, w' = w.drewN k := by
  obtain ⟨e1, e2, e3, e4, e5, e6, e7, e8, e9, e10, e11, e12, e13⟩ := fix_alu
  have M7 := Lib.hid minus12_7
  have M3 := Lib.hid minus12_3
  have M1 := Lib.hid minus12_1
  have D1 : Hid (∀ W, Calls Try.prog 12 #[.int .i64 42, .int .u32 4294967289, .int .u32 2] W fun e w' => e = .returned (.tuple #[.int .u32 4294967293, .bool true]) ∧ ∃ k, w' = W.drewN k) := Lib.hid (fun W => by
    have := do_any 42 4294967289#32 2#32 W
    rw [e1, e2] at this
    exact this)
  have D2 : Hid (∀ W, Calls Try.prog 12 #[.int .i64 44, .int .u32 4294967289, .int .u32 2] W fun e w' => e = .returned (.tuple #[.int .u32 4294967295, .bool true]) ∧ ∃ k, w' = W.drewN k) := Lib.hid (fun W => by
    have := do_any 44 4294967289#32 2#32 W
    rw [e3, e4] at this
    exact this)
  have B1 : Hid (∀ W, Calls Try.prog 14 #[.int .i64 7, .int .u32 4294967295, .int .u32 0] W fun e w' => e = .returned (.tuple #[.bool true, .bool true]) ∧ w' = W) := Lib.hid (fun W => by
    have := branch_any 7 4294967295#32 0#32 W
    rw [e5, e6] at this
    exact this)
  have A1 : Hid (∀ W, Calls Try.prog 16 #[.int .i64 54, .int .u32 4294967295, .int .u32 5] W fun e w' => e = .returned (.tuple #[.int .u32 5, .bool true]) ∧ ∃ k, w' = W.drewN k) := Lib.hid (fun W => by
    have := amo_any 54 4294967295#32 5#32 W
    rw [e7, e8] at this
    exact this)
  have L1 : Hid (∀ W, Calls Try.prog 18 #[.int .i64 11, .int .u32 511] W fun e w' => e = .returned (.tuple #[.int .u32 4294967295, .bool true]) ∧ w' = W) := Lib.hid (fun W => by
    have := load_any 11 511#32 W
    rw [e9, e10] at this
    exact this)
  have D3 : Hid (∀ W, Calls Try.prog 12 #[.int .i64 1, .int .u32 1, .int .u32 1] W fun e w' => e = .returned (.tuple #[.int .u32 0, .bool false]) ∧ ∃ k, w' = W.drewN k) := Lib.hid (fun W => by
    have := do_any 1 1#32 1#32 W
    rw [e11, e12] at this
    exact this)
  have S1 : Hid (∀ W, Calls Try.prog 20 #[.int .i64 17] W fun e w' => e = .returned (.int .i64 2) ∧ w' = W) := Lib.hid (fun W => by
    have := size_any 17 W
    rw [e13] at this
    exact this)
  clear e1 e2 e3 e4 e5 e6 e7 e8 e9 e10 e11 e12 e13
  go_enter Try.func11, Try.ntmps11
  go_wp2_with (first
    | (go_at_call 25; (with_reducible refine (M7.out _).mono ?_); rintro e w5 ⟨rfl, hq⟩; replace hq := hq.symm; subst hq)
    | (go_at_call 25; (with_reducible refine (M3.out _).mono ?_); rintro e w5 ⟨rfl, hq⟩; replace hq := hq.symm; subst hq)
    | (go_at_call 25; (with_reducible refine (M1.out _).mono ?_); rintro e w5 ⟨rfl, hq⟩; replace hq := hq.symm; subst hq)
    | (go_at_call 12; (with_reducible refine (D1.out _).mono ?_); rintro e w5 ⟨rfl, k1, hq⟩; replace hq := hq.symm; subst hq)
    | (go_at_call 12; (with_reducible refine (D2.out _).mono ?_); rintro e w5 ⟨rfl, k2, hq⟩; replace hq := hq.symm; subst hq)
    | (go_at_call 12; (with_reducible refine (D3.out _).mono ?_); rintro e w5 ⟨rfl, k3, hq⟩; replace hq := hq.symm; subst hq)
    | (go_at_call 14; (with_reducible refine (B1.out _).mono ?_); rintro e w5 ⟨rfl, hq⟩; replace hq := hq.symm; subst hq)
    | (go_at_call 16; (with_reducible refine (A1.out _).mono ?_); rintro e w5 ⟨rfl, k4, hq⟩; replace hq := hq.symm; subst hq)
    | (go_at_call 18; (with_reducible refine (L1.out _).mono ?_); rintro e w5 ⟨rfl, hq⟩; replace hq := hq.symm; subst hq)
    | (go_at_call 20; (with_reducible refine (S1.out _).mono ?_); rintro e w5 ⟨rfl, hq⟩; replace hq := hq.symm; subst hq))
  go_ret
  exact ⟨rfl, _, rfl⟩
end Go.Proofs.Ytffmbpenhgbhnaa
