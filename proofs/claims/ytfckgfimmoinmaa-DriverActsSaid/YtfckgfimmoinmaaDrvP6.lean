/- Contracts of package driver: New, Ticks, Blocks; and every call of a driver that New did not create. -/
import Derived.Test.YtfckgfimmoinmaaDrvPA
namespace Go.Proofs.Ytfckgfimmoinmaa
open Go.RowKit Bm

section
variable {B p f q k : Nat} {K : Nat → Prop} {d : DrvM} {w w' : World}
set_option maxRecDepth 100000 in
theorem dnew_any (B p f k : Nat) (m : FlashM) (w : World) (s : St B p f m w) (ok : FlashOk k m) : Calls Try.prog 13 #[.pointer (some ⟨f, 0, none⟩), .int .i64 k] w fun e w' => ∃ q, e = .returned (.pointer (some ⟨q, 0, none⟩)) ∧ Dv B p f q k NoBlock ⟨m, 0⟩ w' ∧ Below w.heap.size w w' := by
  have k1 := ok.chip.k1
  have k2 := ok.chip.k2
  have hs := s.size
  have b := (Below.refl w.heap.size w).alloc (Nat.le_refl _) (.cells (drvCells f k 0).toArray 73)
  have sK := (s.toK.more b w.heap.size (Nat.le_refl _) (by rw [World.size_alloc]; omega))
  have SK := Lib.hid sK
  have HB := Lib.hid b
  clear s ok sK b
  go_enter Try.func13, Try.ntmps13
  go_wp2
  go_ret
  exact ⟨w.heap.size, rfl, ⟨SK.out, At.alloc_new _ _ _ rfl rfl, ⟨hs, fun h => h⟩⟩, HB.out⟩
set_option maxRecDepth 100000 in
theorem dnew_none (f : Option Addr) (n : Int) (w : World) (h : f = none ∨ n < 1 ∨ 64 < n) (b0 : -9223372036854775808 ≤ n) (b1 : n ≤ 9223372036854775807) (hf : ∀ a, f = some a → ∃ b, a = ⟨b, 0, none⟩) : Calls Try.prog 13 #[.pointer f, .int .i64 n] w fun e w' => e = .returned (.pointer none) ∧ w' = w := by
  cases f with
  | none =>
    go_enter Try.func13, Try.ntmps13
    go_wp2
    go_ret
    exact ⟨rfl, rfl⟩
  | some a =>
    obtain ⟨b, rfl⟩ := hf a rfl
    by_cases h1 : n < 1
    · clear h hf
      go_enter Try.func13, Try.ntmps13
      go_wp2
      go_ret
      exact ⟨rfl, rfl⟩
    · have h2 : 64 < n := by
        rcases h with h | h | h
        · cases h
        · omega
        · exact h
      clear h hf
      go_enter Try.func13, Try.ntmps13
      go_wp2
      go_ret
      exact ⟨rfl, rfl⟩
theorem Dv.ticks0 (s : Dv B p f q k K d w) : Calls Try.prog 30 #[.pointer (some ⟨q, 0, none⟩)] w fun e w' => e = .returned (.int .i64 d.t) ∧ w' = w := by
  have g := s.own.cell 2
  simp only [drvCells, List.getElem?_cons_zero, List.getElem?_cons_succ] at g
  have M := Lib.hid s.made
  clear s
  go_enter Try.func30, Try.ntmps30
  go_wp2_with (go_at_call 39; (with_reducible refine M.out.mono ?_); rintro e w1 ⟨rfl, rfl⟩)
  go_ret
  exact ⟨rfl, rfl⟩
theorem Dv.blocks0 (s : Dv B p f q k K d w) : Calls Try.prog 35 #[.pointer (some ⟨q, 0, none⟩)] w fun e w' => e = .returned (.int .i64 k) ∧ w' = w := by
  have g := s.own.cell 1
  simp only [drvCells, List.getElem?_cons_zero, List.getElem?_cons_succ] at g
  have M := Lib.hid s.made
  clear s
  go_enter Try.func35, Try.ntmps35
  go_wp2_with (go_at_call 39; (with_reducible refine M.out.mono ?_); rintro e w1 ⟨rfl, rfl⟩)
  go_ret
  exact ⟨rfl, rfl⟩
end

theorem nod_read (v : Value) (a many : Int) (w : World) (h : NoDrv w v) (a0 : iOk a) (a1 : iOk many) : Calls Try.prog 17 #[v, .int .i64 a, .int .i64 many] w fun e w' => e = .returned (.tuple #[.slice none 0 0, .int .i64 1]) ∧ Below w.heap.size w w' := by
  have M := Lib.hid (nod_made h)
  clear h
  go_enter Try.func17, Try.ntmps17
  go_wp2_with (go_at_call 39; (with_reducible refine M.out.mono ?_); rintro e w1 ⟨rfl, rfl⟩)
  go_ret2
  exact ⟨rfl, Below.refl _ _⟩
theorem nod_program (v : Value) (a : Int) (A : Option Addr) (n c : Nat) (xs : List (BitVec 32)) (w : World) (h : NoDrv w v) (a0 : iOk a) (hr : ReadsU w A n c xs) : Calls Try.prog 28 #[v, .int .i64 a, .slice A n c] w fun e w' => e = .returned (.int .i64 1) ∧ Below w.heap.size w w' := by
  have M := Lib.hid (nod_made h)
  clear h hr
  go_enter Try.func28, Try.ntmps28
  go_wp2_with (go_at_call 39; (with_reducible refine M.out.mono ?_); rintro e w1 ⟨rfl, rfl⟩)
  go_ret
  exact ⟨rfl, Below.refl _ _⟩
theorem nod_erase (v : Value) (a : Int) (w : World) (h : NoDrv w v) (a0 : iOk a) : Calls Try.prog 15 #[v, .int .i64 a] w fun e w' => e = .returned (.int .i64 1) ∧ Below w.heap.size w w' := by
  have M := Lib.hid (nod_made h)
  clear h
  go_enter Try.func15, Try.ntmps15
  go_wp2_with (go_at_call 39; (with_reducible refine M.out.mono ?_); rintro e w1 ⟨rfl, rfl⟩)
  go_ret
  exact ⟨rfl, Below.refl _ _⟩
theorem nod_lock (v : Value) (a : Int) (on : Bool) (w : World) (h : NoDrv w v) (a0 : iOk a) : Calls Try.prog 20 #[v, .int .i64 a, .bool on] w fun e w' => e = .returned (.int .i64 1) ∧ Below w.heap.size w w' := by
  have M := Lib.hid (nod_made h)
  clear h
  go_enter Try.func20, Try.ntmps20
  go_wp2_with (go_at_call 39; (with_reducible refine M.out.mono ?_); rintro e w1 ⟨rfl, rfl⟩)
  go_ret
  exact ⟨rfl, Below.refl _ _⟩
theorem nod_ticks (v : Value) (w : World) (h : NoDrv w v) : Calls Try.prog 30 #[v] w fun e w' => e = .returned (.int .i64 0) ∧ Below w.heap.size w w' := by
  have M := Lib.hid (nod_made h)
  clear h
  go_enter Try.func30, Try.ntmps30
  go_wp2_with (go_at_call 39; (with_reducible refine M.out.mono ?_); rintro e w1 ⟨rfl, rfl⟩)
  go_ret
  exact ⟨rfl, Below.refl _ _⟩
theorem nod_blocks (v : Value) (w : World) (h : NoDrv w v) : Calls Try.prog 35 #[v] w fun e w' => e = .returned (.int .i64 0) ∧ Below w.heap.size w w' := by
  have M := Lib.hid (nod_made h)
  clear h
  go_enter Try.func35, Try.ntmps35
  go_wp2_with (go_at_call 39; (with_reducible refine M.out.mono ?_); rintro e w1 ⟨rfl, rfl⟩)
  go_ret
  exact ⟨rfl, Below.refl _ _⟩
end Go.Proofs.Ytfckgfimmoinmaa
