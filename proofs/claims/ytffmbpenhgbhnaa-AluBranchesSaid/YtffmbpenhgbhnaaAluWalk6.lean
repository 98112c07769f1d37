/- AluBranches: of two opposite branches just one goes. -/
import Derived.Test.YtffmbpenhgbhnaaAluV
namespace Go.Proofs.Ytffmbpenhgbhnaa
open Go.RowKit Bm

/-- The statement's helper: a branch goes. -/
theorem goes12 (n : Int) (a b : BitVec 32) (r : Bool) (h : (brM n a b && brIs n) = r) (w : World) : Calls Try.prog 23 #[.int .i64 n, .int .u32 (U a), .int .u32 (U b)] w fun e w' => e = .returned (.bool r) ∧ w' = w := by
  have HB := Lib.hid (branch_any n a b w)
  generalize brM n a b = x at *
  generalize brIs n = y at *
  cases x <;> cases y <;> subst h
  all_goals
    go_enter Try.func23, Try.ntmps23
    go_wp2_with (go_at_call 14; (with_reducible refine HB.out.mono ?_); rintro e w5 ⟨rfl, hq⟩; replace hq := hq.symm; subst hq)
    go_ret
    exact ⟨rfl, rfl⟩
/-- What the branches do, by what is so. -/
structure Br12 (a b : BitVec 32) (e p q p2 e' p' q' : Bool) (s u : Int) : Prop where
  eq : ∀ w, Calls Try.prog 23 #[.int .i64 5, .int .u32 (U a), .int .u32 (U b)] w fun r w' => r = .returned (.bool e) ∧ w' = w
  ne : ∀ w, Calls Try.prog 23 #[.int .i64 6, .int .u32 (U a), .int .u32 (U b)] w fun r w' => r = .returned (.bool e') ∧ w' = w
  lt : ∀ w, Calls Try.prog 23 #[.int .i64 7, .int .u32 (U a), .int .u32 (U b)] w fun r w' => r = .returned (.bool p) ∧ w' = w
  ge : ∀ w, Calls Try.prog 23 #[.int .i64 8, .int .u32 (U a), .int .u32 (U b)] w fun r w' => r = .returned (.bool p') ∧ w' = w
  ltu : ∀ w, Calls Try.prog 23 #[.int .i64 9, .int .u32 (U a), .int .u32 (U b)] w fun r w' => r = .returned (.bool q) ∧ w' = w
  geu : ∀ w, Calls Try.prog 23 #[.int .i64 10, .int .u32 (U a), .int .u32 (U b)] w fun r w' => r = .returned (.bool q') ∧ w' = w
  back : ∀ w, Calls Try.prog 23 #[.int .i64 7, .int .u32 (U b), .int .u32 (U a)] w fun r w' => r = .returned (.bool p2) ∧ w' = w
  slt : ∀ w, Calls Try.prog 22 #[.int .i64 31, .int .u32 (U a), .int .u32 (U b)] w fun r w' => r = .returned (.int .u32 s) ∧ ∃ k, w' = w.drewN k
  sltu : ∀ w, Calls Try.prog 22 #[.int .i64 32, .int .u32 (U a), .int .u32 (U b)] w fun r w' => r = .returned (.int .u32 u) ∧ ∃ k, w' = w.drewN k
  same : (U a == U b) = e
theorem br12 (a b : BitVec 32) : Br12 a b (a == b) (decide (a.toInt < b.toInt)) (decide (U a < U b)) (decide (b.toInt < a.toInt)) (!(a == b)) (!(decide (a.toInt < b.toInt))) (!(decide (U a < U b))) (U (oneB (decide (a.toInt < b.toInt)))) (U (oneB (decide (U a < U b)))) where
  eq := goes12 5 a b _ (by show (bOp 0 a b && true) = _; rw [Bool.and_true]; rfl)
  ne := goes12 6 a b _ (by show (bOp 1 a b && true) = _; rw [Bool.and_true]; rfl)
  lt := goes12 7 a b _ (by show (bOp 2 a b && true) = _; rw [Bool.and_true]; rfl)
  ge := goes12 8 a b _ (by
    show (decide (b.toInt ≤ a.toInt) && true) = _
    rw [Bool.and_true, ← decide_not]
    congr 1
    exact propext ⟨fun h => by omega, fun h => by omega⟩)
  ltu := goes12 9 a b _ (by show (bOp 4 a b && true) = _; rw [Bool.and_true]; rfl)
  geu := goes12 10 a b _ (by
    show (decide (U b ≤ U a) && true) = _
    rw [Bool.and_true, ← decide_not]
    congr 1
    exact propext ⟨fun h => by omega, fun h => by omega⟩)
  back := goes12 7 b a _ (by show (bOp 2 b a && true) = _; rw [Bool.and_true]; rfl)
  slt := do12_any 31 a b _ rfl
  sltu := do12_any 32 a b _ rfl
  same := U_beq a b
theorem br12_way (a b : BitVec 32) : ∃ e p q p2, Br12 a b e p q p2 (!e) (!p) (!q) (U (oneB p)) (U (oneB q)) ∧ (e = true ∨ p ≠ p2) := by
  refine ⟨_, _, _, _, br12 a b, ?_⟩
  by_cases h : a = b
  · left; simp [h]
  · right
    have : a.toInt ≠ b.toInt := fun e => h (BitVec.eq_of_toInt_eq e)
    intro e
    by_cases hp : a.toInt < b.toInt
    · have h2 : ¬ b.toInt < a.toInt := by omega
      simp [hp, h2] at e
    · have h2 : b.toInt < a.toInt := by omega
      simp [hp, h2] at e
set_option maxHeartbeats 2000000 in
theorem brw12_0 (a b : BitVec 32) (p q : Bool) (s u : Int) (hs1 : (s == 1) = p) (hu1 : (u == 1) = q) (h : Br12 a b false p q (!p) true (!p) (!q) s u) (w : World) :
    Calls Try.prog 8 #[.int .u32 (U a), .int .u32 (U b)] w fun e w' => e = .returned (.bool true) ∧ Below w.heap.size w w' := by
  have HA := Lib.hid alive12_any
  have h1 := Lib.hid h.eq
  have h2 := Lib.hid h.ne
  have h3 := Lib.hid h.lt
  have h4 := Lib.hid h.ge
  have h5 := Lib.hid h.ltu
  have h6 := Lib.hid h.geu
  have h7 := Lib.hid h.back
  have h8 := Lib.hid h.slt
  have h9 := Lib.hid h.sltu
  have hs := h.same
  clear h
  go_enter Try.func8, Try.ntmps8
  go_wp2_with (first | (go_at_call 11; (with_reducible refine (HA.out _).mono ?_); rintro e w5 ⟨rfl, k, hq⟩; replace hq := hq.symm; subst hq) | (go_at_call 22; (with_reducible refine (h8.out _).mono ?_); rintro e w5 ⟨rfl, k, hq⟩; replace hq := hq.symm; subst hq) | (go_at_call 22; (with_reducible refine (h9.out _).mono ?_); rintro e w5 ⟨rfl, k, hq⟩; replace hq := hq.symm; subst hq) | (go_at_call 23; (with_reducible refine (h1.out _).mono ?_); rintro e w5 ⟨rfl, hq⟩; replace hq := hq.symm; subst hq) | (go_at_call 23; (with_reducible refine (h2.out _).mono ?_); rintro e w5 ⟨rfl, hq⟩; replace hq := hq.symm; subst hq) | (go_at_call 23; (with_reducible refine (h3.out _).mono ?_); rintro e w5 ⟨rfl, hq⟩; replace hq := hq.symm; subst hq) | (go_at_call 23; (with_reducible refine (h4.out _).mono ?_); rintro e w5 ⟨rfl, hq⟩; replace hq := hq.symm; subst hq) | (go_at_call 23; (with_reducible refine (h5.out _).mono ?_); rintro e w5 ⟨rfl, hq⟩; replace hq := hq.symm; subst hq) | (go_at_call 23; (with_reducible refine (h6.out _).mono ?_); rintro e w5 ⟨rfl, hq⟩; replace hq := hq.symm; subst hq) | (go_at_call 23; (with_reducible refine (h7.out _).mono ?_); rintro e w5 ⟨rfl, hq⟩; replace hq := hq.symm; subst hq))
  go_ret
  exact ⟨by simp, below_drewN (Below.refl _ w) _⟩
set_option maxHeartbeats 2000000 in
theorem brw12_1 (a b : BitVec 32) (p q p2 : Bool) (s u : Int) (hs1 : (s == 1) = p) (hu1 : (u == 1) = q) (h : Br12 a b true p q p2 false (!p) (!q) s u) (w : World) :
    Calls Try.prog 8 #[.int .u32 (U a), .int .u32 (U b)] w fun e w' => e = .returned (.bool true) ∧ Below w.heap.size w w' := by
  have HA := Lib.hid alive12_any
  have h1 := Lib.hid h.eq
  have h2 := Lib.hid h.ne
  have h3 := Lib.hid h.lt
  have h4 := Lib.hid h.ge
  have h5 := Lib.hid h.ltu
  have h6 := Lib.hid h.geu
  have h7 := Lib.hid h.back
  have h8 := Lib.hid h.slt
  have h9 := Lib.hid h.sltu
  have hs := h.same
  clear h
  go_enter Try.func8, Try.ntmps8
  go_wp2_with (first | (go_at_call 11; (with_reducible refine (HA.out _).mono ?_); rintro e w5 ⟨rfl, k, hq⟩; replace hq := hq.symm; subst hq) | (go_at_call 22; (with_reducible refine (h8.out _).mono ?_); rintro e w5 ⟨rfl, k, hq⟩; replace hq := hq.symm; subst hq) | (go_at_call 22; (with_reducible refine (h9.out _).mono ?_); rintro e w5 ⟨rfl, k, hq⟩; replace hq := hq.symm; subst hq) | (go_at_call 23; (with_reducible refine (h1.out _).mono ?_); rintro e w5 ⟨rfl, hq⟩; replace hq := hq.symm; subst hq) | (go_at_call 23; (with_reducible refine (h2.out _).mono ?_); rintro e w5 ⟨rfl, hq⟩; replace hq := hq.symm; subst hq) | (go_at_call 23; (with_reducible refine (h3.out _).mono ?_); rintro e w5 ⟨rfl, hq⟩; replace hq := hq.symm; subst hq) | (go_at_call 23; (with_reducible refine (h4.out _).mono ?_); rintro e w5 ⟨rfl, hq⟩; replace hq := hq.symm; subst hq) | (go_at_call 23; (with_reducible refine (h5.out _).mono ?_); rintro e w5 ⟨rfl, hq⟩; replace hq := hq.symm; subst hq) | (go_at_call 23; (with_reducible refine (h6.out _).mono ?_); rintro e w5 ⟨rfl, hq⟩; replace hq := hq.symm; subst hq) | (go_at_call 23; (with_reducible refine (h7.out _).mono ?_); rintro e w5 ⟨rfl, hq⟩; replace hq := hq.symm; subst hq))
  go_ret
  exact ⟨by simp, below_drewN (Below.refl _ w) _⟩
theorem one_is (p : Bool) : (U (oneB p) == 1) = p := by cases p <;> rfl
theorem aluBranches_walk (a0 : Int) (b0 : (Lit.int .u32 a0).wf = true) (a1 : Int) (b1 : (Lit.int .u32 a1).wf = true) (w : World) :
    Calls Try.prog 8 #[.int .u32 a0, .int .u32 a1] w fun e w' => e = .returned (.bool true) ∧ Below w.heap.size w w' := by
  have be := bounds_u32 b0
  have bf := bounds_u32 b1
  obtain ⟨a, rfl⟩ := U_of be.1 (by omega)
  obtain ⟨b, rfl⟩ := U_of bf.1 (by omega)
  obtain ⟨e, p, q, p2, h, hw⟩ := br12_way a b
  cases e
  · have : p2 = !p := by cases p <;> cases p2 <;> simp at hw ⊢
    subst this
    exact brw12_0 a b p q _ _ (one_is p) (one_is q) h w
  · exact brw12_1 a b p q p2 _ _ (one_is p) (one_is q) h w
end Go.Proofs.Ytffmbpenhgbhnaa
