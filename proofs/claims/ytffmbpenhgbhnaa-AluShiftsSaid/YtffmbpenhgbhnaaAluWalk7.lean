/- AluShifts: shifts by one number, and by another one, are those by both. -/
import Derived.Test.YtffmbpenhgbhnaaAluV
import Derived.Deep.DeepCutAuto
namespace Go.Proofs.Ytffmbpenhgbhnaa
open Go.RowKit Bm

/-- What the shifts of a name come to: by p, behind it by q; by both; by p and 32. -/
structure Sh12 (n : Int) (a A1 A2 : BitVec 32) (p q s t : Int) : Prop where
  one : ∀ w, Calls Try.prog 22 #[.int .i64 n, .int .u32 (U a), .int .u32 p] w fun e w' => e = .returned (.int .u32 (U A1)) ∧ ∃ k, w' = w.drewN k
  two : ∀ w, Calls Try.prog 22 #[.int .i64 n, .int .u32 (U A1), .int .u32 q] w fun e w' => e = .returned (.int .u32 (U A2)) ∧ ∃ k, w' = w.drewN k
  both : ∀ w, Calls Try.prog 22 #[.int .i64 n, .int .u32 (U a), .int .u32 s] w fun e w' => e = .returned (.int .u32 (U A2)) ∧ ∃ k, w' = w.drewN k
  round : ∀ w, Calls Try.prog 22 #[.int .i64 n, .int .u32 (U a), .int .u32 t] w fun e w' => e = .returned (.int .u32 (U A1)) ∧ ∃ k, w' = w.drewN k
theorem sh12_one (n : Int) (f : BitVec 32 → Nat → BitVec 32) (hf : ∀ x y : BitVec 32, doM n x y = f x (y.toNat % 32)) (x : BitVec 32) (i : Nat) (hi : i < 64) (w : World) :
    Calls Try.prog 22 #[.int .i64 n, .int .u32 (U x), .int .u32 (i : Int)] w fun e w' => e = .returned (.int .u32 (U (f x (i % 32)))) ∧ ∃ k, w' = w.drewN k := by
  have e : U (BitVec.ofNat 32 i) = (i : Int) := U_ofNat i (by omega)
  have e2 : (BitVec.ofNat 32 i).toNat = i := by rw [BitVec.toNat_ofNat]; omega
  have := do12_any n x (BitVec.ofNat 32 i) _ (hf _ _) w
  rw [e, e2] at this
  exact this
theorem sh12_of (n : Int) (f : BitVec 32 → Nat → BitVec 32) (hf : ∀ x y : BitVec 32, doM n x y = f x (y.toNat % 32)) (hadd : ∀ (x : BitVec 32) (i j : Nat), f (f x i) j = f x (i + j)) (a : BitVec 32) (p q : Nat) (h : p + q ≤ 31) :
    Sh12 n a (f a p) (f a (p + q)) p q ((p : Int) + q) ((p : Int) + 32) where
  one := fun w => by
    have := sh12_one n f hf a p (by omega) w
    rw [Nat.mod_eq_of_lt (by omega)] at this
    exact this
  two := fun w => by
    have := sh12_one n f hf (f a p) q (by omega) w
    rw [Nat.mod_eq_of_lt (by omega), hadd] at this
    exact this
  both := fun w => by
    have := sh12_one n f hf a (p + q) (by omega) w
    rw [Nat.mod_eq_of_lt (by omega)] at this
    exact this
  round := fun w => by
    have := sh12_one n f hf a (p + 32) (by omega) w
    rw [show (p + 32) % 32 = p by omega] at this
    exact this
theorem neg31 (a : BitVec 32) : -(U a / 2147483648) % 4294967296 = U (a.sshiftRight 31) := by
  rw [← U_sshr, tI_U]
  have := U_nonneg a
  have := U_lt a
  split <;> omega
set_option maxHeartbeats 4000000 in
theorem aluShifts_walk (a0 : Int) (b0 : (Lit.int .u32 a0).wf = true) (a1 : Int) (b1 : (Lit.int .u8 a1).wf = true) (a2 : Int) (b2 : (Lit.int .u8 a2).wf = true) (w : World) :
    Calls Try.prog 9 #[.int .u32 a0, .int .u8 a1, .int .u8 a2] w fun e w' => e = .returned (.bool true) ∧ Below w.heap.size w w' := by
  have be := bounds_u32 b0
  have bf := bounds_u8 b1
  have bg := bounds_u8 b2
  obtain ⟨a, rfl⟩ := U_of be.1 (by omega)
  obtain ⟨p, hp⟩ : ∃ p : Nat, (p : Int) = a1 % 32 := ⟨(a1 % 32).toNat, by omega⟩
  obtain ⟨q, hq⟩ : ∃ q : Nat, (q : Int) = a2 % 32 := ⟨(a2 % 32).toNat, by omega⟩
  have tp : a1.tmod 32 = (p : Int) := by rw [Int.tmod_eq_emod_of_nonneg bf.1, hp]
  have tq : a2.tmod 32 = (q : Int) := by rw [Int.tmod_eq_emod_of_nonneg bg.1, hq]
  have w1 : IntKind.u32.wrap a1 = a1 := by rw [IntKind.wrap_u32]; omega
  have w2 : IntKind.u32.wrap a2 = a2 := by rw [IntKind.wrap_u32]; omega
  have v1 : a1 % 4294967296 = a1 := by omega
  have v2 : a2 % 4294967296 = a2 := by omega
  have ws : ((p : Int) + q) % 4294967296 = (p : Int) + q := by omega
  have wt : ((p : Int) + 32) % 4294967296 = (p : Int) + 32 := by omega
  have HA := Lib.hid alive12_any
  by_cases h : p + q ≤ 31
  · have HL := Lib.hid (sh12_of 30 (fun x i => x <<< i) (fun _ _ => rfl) (fun x i j => (BitVec.shiftLeft_add x i j).symm) a p q h)
    have HR := Lib.hid (sh12_of 34 (fun x i => x >>> i) (fun _ _ => rfl) (fun x i j => (BitVec.shiftRight_add x i j).symm) a p q h)
    have HS := Lib.hid (sh12_of 35 (fun x i => x.sshiftRight i) (fun _ _ => rfl) (fun x i j => BitVec.sshiftRight_add.symm) a p q h)
    have H31 : Hid (∀ W, Calls Try.prog 22 #[.int .i64 35, .int .u32 (U a), .int .u32 31] W fun e w' => e = .returned (.int .u32 (U (a.sshiftRight 31))) ∧ ∃ k, w' = W.drewN k) := Lib.hid (fun W => sh12_one 35 (fun x i => x.sshiftRight i) (fun _ _ => rfl) a 31 (by omega) W)
    have hn := neg31 a
    have hs : ¬ 31 < (p : Int) + q := by omega
    generalize a.sshiftRight 31 = F at *
    generalize (fun (x : BitVec 32) (i : Nat) => x <<< i) a p = L1 at *
    generalize (fun (x : BitVec 32) (i : Nat) => x <<< i) a (p + q) = L2 at *
    generalize (fun (x : BitVec 32) (i : Nat) => x >>> i) a p = R1 at *
    generalize (fun (x : BitVec 32) (i : Nat) => x >>> i) a (p + q) = R2 at *
    generalize (fun (x : BitVec 32) (i : Nat) => x.sshiftRight i) a p = S1 at *
    generalize (fun (x : BitVec 32) (i : Nat) => x.sshiftRight i) a (p + q) = S2 at *
    obtain ⟨s, es⟩ : ∃ s, (p : Int) + q = s := ⟨_, rfl⟩
    obtain ⟨t, et⟩ : ∃ t, (p : Int) + 32 = t := ⟨_, rfl⟩
    rw [es] at hs ws HL HR HS
    rw [et] at wt HL HR HS
    generalize (p : Int) = x at *
    generalize (q : Int) = y at *
    have es2 : (x + y) % 4294967296 = s := by rw [es]; exact ws
    have et2 : (x + 32) % 4294967296 = t := by rw [et]; exact wt
    clear h hp hq b0 b1 b2 be bf bg es et ws wt
    go_enter Try.func9, Try.ntmps9
    go_wp2_with (go_at_call 11; (with_reducible refine (HA.out _).mono ?_); rintro e w5 ⟨rfl, k, hq⟩; replace hq := hq.symm; subst hq)
    obtain ⟨W1, hW1⟩ : ∃ W, W = (w.drewN k).alloc (.cells #[.int .i64 30, .int .i64 34, .int .i64 35] 3) := ⟨_, rfl⟩
    have hB := (below_drewN (Below.refl w.heap.size w) k).alloc (Nat.le_refl _) (.cells #[.int .i64 30, .int .i64 34, .int .i64 35] 3)
    have hc : At W1 w.heap.size 3 [.int .i64 30, .int .i64 34, .int .i64 35] := by rw [hW1]; exact At.news (w.drewN k) 3 [.int .i64 30, .int .i64 34, .int .i64 35]
    rw [← hW1] at hB
    try rw [← hW1]
    have HB := Lib.hid hB
    have HC := Lib.hid hc
    obtain ⟨g, hg⟩ : ∃ g, g = w.heap.size := ⟨_, rfl⟩
    rw [← hg] at HC
    simp only [← hg, es2]
    have HG := Lib.hid hg
    clear hW1 hc hB hg
    go_loopw [10, 25] (fun _ i wr => ∃ j : Nat, j ≤ 3 ∧ i = .int .i64 j ∧ At wr g 3 [.int .i64 30, .int .i64 34, .int .i64 35] ∧ Below w.heap.size w wr) (fun _ i _ => 3 - (intOf i).toNat)
    case atStart => exact ⟨0, by omega, rfl, HC.out, by first | exact HB.out | (rw [HG.out]; exact HB.out)⟩
    case round =>
      obtain ⟨j, hj, rfl, hA, hB⟩ := hrel
      have A1 := Lib.hid hA
      have L1 := Lib.hid hB
      clear HC
      have c : j = 0 ∨ j = 1 ∨ j = 2 ∨ j = 3 := by omega
      clear hA hB hj
      rcases c with rfl | rfl | rfl | rfl
      · have c0 : wr.cell? ⟨g, 0, none⟩ = some (.int .i64 30) := A1.out.cell 0
        go_wp2_with (first | (go_at_call 22; (with_reducible refine (HL.out.one _).mono ?_); rintro e w5 ⟨rfl, k, hq⟩; replace hq := hq.symm; subst hq) | (go_at_call 22; (with_reducible refine (HL.out.two _).mono ?_); rintro e w5 ⟨rfl, k, hq⟩; replace hq := hq.symm; subst hq) | (go_at_call 22; (with_reducible refine (HL.out.both _).mono ?_); rintro e w5 ⟨rfl, k, hq⟩; replace hq := hq.symm; subst hq) | (go_at_call 22; (with_reducible refine (HL.out.round _).mono ?_); rintro e w5 ⟨rfl, k, hq⟩; replace hq := hq.symm; subst hq))
        go_round
        case rel => exact ⟨1, by omega, by first | exact trivial | rfl | go_num, A1.out.drewN _, below_drewN L1.out _⟩
        case measure => first | decide | simp [intOf]
      · have c0 : wr.cell? ⟨g, 1, none⟩ = some (.int .i64 34) := A1.out.cell 1
        go_wp2_with (first | (go_at_call 22; (with_reducible refine (HR.out.one _).mono ?_); rintro e w5 ⟨rfl, k, hq⟩; replace hq := hq.symm; subst hq) | (go_at_call 22; (with_reducible refine (HR.out.two _).mono ?_); rintro e w5 ⟨rfl, k, hq⟩; replace hq := hq.symm; subst hq) | (go_at_call 22; (with_reducible refine (HR.out.both _).mono ?_); rintro e w5 ⟨rfl, k, hq⟩; replace hq := hq.symm; subst hq) | (go_at_call 22; (with_reducible refine (HR.out.round _).mono ?_); rintro e w5 ⟨rfl, k, hq⟩; replace hq := hq.symm; subst hq))
        go_round
        case rel => exact ⟨2, by omega, by first | exact trivial | rfl | go_num, A1.out.drewN _, below_drewN L1.out _⟩
        case measure => first | decide | simp [intOf]
      · have c0 : wr.cell? ⟨g, 2, none⟩ = some (.int .i64 35) := A1.out.cell 2
        go_wp2_with (first | (go_at_call 22; (with_reducible refine (HS.out.one _).mono ?_); rintro e w5 ⟨rfl, k, hq⟩; replace hq := hq.symm; subst hq) | (go_at_call 22; (with_reducible refine (HS.out.two _).mono ?_); rintro e w5 ⟨rfl, k, hq⟩; replace hq := hq.symm; subst hq) | (go_at_call 22; (with_reducible refine (HS.out.both _).mono ?_); rintro e w5 ⟨rfl, k, hq⟩; replace hq := hq.symm; subst hq) | (go_at_call 22; (with_reducible refine (HS.out.round _).mono ?_); rintro e w5 ⟨rfl, k, hq⟩; replace hq := hq.symm; subst hq))
        go_round
        case rel => exact ⟨3, by omega, by first | exact trivial | rfl | go_num, A1.out.drewN _, below_drewN L1.out _⟩
        case measure => first | decide | simp [intOf]
      · go_wp2_with (go_at_call 22; (with_reducible refine (H31.out _).mono ?_); rintro e w5 ⟨rfl, k, hq⟩; replace hq := hq.symm; subst hq)
        go_ret
        exact ⟨by simp, below_drewN L1.out _⟩
  · have hs : 31 < (p : Int) + q := by omega
    obtain ⟨s, es⟩ : ∃ s, (p : Int) + q = s := ⟨_, rfl⟩
    rw [es] at hs ws
    clear wt
    generalize (p : Int) = x at *
    generalize (q : Int) = y at *
    have es2 : (x + y) % 4294967296 = s := by rw [es]; exact ws
    clear h b0 b1 b2 be bf bg hp hq es ws
    go_enter Try.func9, Try.ntmps9
    go_wp2_with (go_at_call 11; (with_reducible refine (HA.out _).mono ?_); rintro e w5 ⟨rfl, k, hq⟩; replace hq := hq.symm; subst hq)
    go_ret
    exact ⟨rfl, below_drewN (Below.refl _ w) _⟩
end Go.Proofs.Ytffmbpenhgbhnaa
