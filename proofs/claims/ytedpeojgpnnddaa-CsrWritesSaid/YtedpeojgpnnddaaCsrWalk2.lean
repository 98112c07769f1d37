/- CsrWrites: what all registers are, when any one is written, is the document's. -/
import Derived.Test.YtedpeojgpnnddaaCsrV
import Derived.Test.YtedpeojgpnnddaaCsrE
import Derived.Test.YtedpeojgpnnddaaHold
import Derived.Deep.DeepCutAuto
namespace Go.Proofs.Ytedpeojgpnnddaa
open Go.RowKit Bm

theorem ld13R (ρ : Operand → Value) (d : Option Tmp) (x : Operand) (ty : TypeId) (pos : String) (af : Array Edge) (gd : Option (Nat × Bool)) (W : World) : (execOp ρ ⟨d, .load 25 x, ty, pos, af, gd⟩).run Try.prog W = (run_ex (loadOf 25) (ρ x) W).choose := load_is _ ρ d x ty pos af gd W
theorem ld13C (ρ : Operand → Value) (d : Option Tmp) (x : Operand) (ty : TypeId) (pos : String) (af : Array Edge) (gd : Option (Nat × Bool)) (W : World) : (execOp ρ ⟨d, .load 29 x, ty, pos, af, gd⟩).run Try.prog W = (run_ex (loadOf 29) (ρ x) W).choose := load_is _ ρ d x ty pos af gd W
theorem ld13R_at {W : World} {g : Nat} {f : FileM} (h : At W g 25 (flC f)) : (run_ex (loadOf 25) (.pointer (some ⟨g, 0, none⟩)) W).choose = .ok (.value (.agg (flC f).toArray)) W := load_at Try.underlying25 rfl r13fl_size h.rng0 rfl
theorem ld13C_at {W : World} {g : Nat} {f : FileM} (h : At W g 29 (flC f)) : (run_ex (loadOf 29) (.pointer (some ⟨g, 0, none⟩)) W).choose = .ok (.value (.agg (flC f).toArray)) W := load_at Try.underlying29 rfl cfl_size h.rng0 rfl
end Go.Proofs.Ytedpeojgpnnddaa

namespace Go.Proofs.Ytedpeojgpnnddaa
open Go.RowKit Bm
attribute [local go_sem ↓] Go.wp_at_zero Go.wp_at_succ ld13R ld13C

set_option maxRecDepth 100000 in
set_option maxHeartbeats 4000000 in
theorem csrWrites_walk (f : FileM) (n p : Int) (v : BitVec 32) (_ : (Lit.int .i64 n).wf = true) (_ : (Lit.int .i64 p).wf = true) (a1 : Int) (b1 : (Lit.int .u32 a1).wf = true) (w : World) :
    Calls Try.prog 4 #[.agg (flC f).toArray, .agg #[.int .i64 n, .int .i64 p, .int .u32 (U v)], .int .u32 a1] w fun e w' => e = .returned (.bool true) ∧ Below w.heap.size w w' := by
  have be := bounds_u32 b1
  obtain ⟨l, rfl⟩ := U_of be.1 (by omega)
  have HX := Lib.hid (fun W => write13_any f n p v W)
  have HY := Lib.hid (fun W => r13write_any f n p v W)
  have HL := Lib.hid (fun W => lines13_any f l W)
  have HM := Lib.hid (fun W => r13lines_any f l W)
  generalize wrM f n p v = X at *
  generalize wrIs n p = t at *
  generalize lnM f l = Z at *
  have e1 : ∀ W, (Op.equalIn 10000 25 (.agg (flC X).toArray) (.agg (flC X).toArray)).run Try.prog W = .ok true W := fun W => by rw [run_eqR]; simp
  have e2 : ∀ W, (Op.equalIn 10000 25 (.agg (flC Z).toArray) (.agg (flC Z).toArray)).run Try.prog W = .ok true W := fun W => by rw [run_eqR]; simp
  have E1 := Lib.hid e1
  have E2 := Lib.hid e2
  clear b1 be e1 e2
  go_enter Try.func4, Try.ntmps4
  go_upto_region 1 with (fail)
  obtain ⟨W1, hW1⟩ : ∃ W, W = (w.alloc (.cells (flC f).toArray 25)).alloc (.cells #[.int .i64 n, .int .i64 p, .int .u32 (U v)] 33) := ⟨_, rfl⟩
  have hB := below_two w (.cells (flC f).toArray 25) (.cells #[.int .i64 n, .int .i64 p, .int .u32 (U v)] 33)
  have hA : At W1 w.heap.size 25 (flC f) := by rw [hW1]; exact (At.news w 25 (flC f)).alloc _
  have hP : At W1 (w.heap.size + 1) 33 [.int .i64 n, .int .i64 p, .int .u32 (U v)] := by rw [hW1]; exact At.alloc_new _ 33 [.int .i64 n, .int .i64 p, .int .u32 (U v)] (by simp) rfl
  rw [← hW1] at hB
  first | rw [← hW1] | (change Code.wp _ _ _ _ ((w.alloc (.cells (flC f).toArray 25)).alloc (.cells #[.int .i64 n, .int .i64 p, .int .u32 (U v)] 33)); rw [← hW1])
  have LW1 := Lib.hid hB
  have A1 := Lib.hid hA
  have P1 := Lib.hid hP
  clear hW1 hB hA hP
  go_upto_region 3 with (go_at_call 10; (with_reducible refine (alive13_any _).mono ?_); rintro e w2 ⟨rfl, hb⟩; have A2 := Lib.hid (A1.out.keep hb); have P2 := Lib.hid (P1.out.keep hb); have Lw2 := Lib.hid (LW1.out.trans (hb.mono LW1.out.size)); clear hb)
  have c0 : w2.cell? ⟨w.heap.size + 1, 0, none⟩ = some (.int .i64 n) := P2.out.cell 0
  have c1 : w2.cell? ⟨w.heap.size + 1, 1, none⟩ = some (.int .i64 p) := P2.out.cell 1
  have c2 : w2.cell? ⟨w.heap.size + 1, 2, none⟩ = some (.int .u32 (U v)) := P2.out.cell 2
  go_upto_region 4 with (first
    | (refine wpList_ldS (flC f) _ A2.out (by rfl) rfl rfl Try.underlying25 rfl r13fl_size rfl ?_)
    | (go_at_call 13; (with_reducible refine (HX.out _).mono ?_); rintro e w3 ⟨rfl, hb⟩; have A3 := Lib.hid (A2.out.keep hb); have P3 := Lib.hid (P2.out.keep hb); have Lw3 := Lib.hid (Lw2.out.trans (hb.mono Lw2.out.size)); clear hb)
    | (refine wpList_newS 29 [.int .u32 0, .int .u32 0, .int .u32 0, .int .u32 0, .int .u32 0, .int .u32 0, .int .u32 0, .int .u32 0, .int .u32 0, .int .u32 0, .int .u32 0, .int .u32 0, .int .u32 0, .int .u32 0, .int .u32 0, .int .u32 0, .int .u64 0] (flC X) w3 _ _ rfl rfl rfl rfl rfl cfl_size rfl rfl (fl_one _) ?_; intro w4 hA hb; have X4 := Lib.hid hA; have A4 := Lib.hid (A3.out.keep hb); have P4 := Lib.hid (P3.out.keep hb); have Lw4 := Lib.hid (Lw3.out.trans (hb.mono Lw3.out.size)); clear hA hb))
  clear c0 c1 c2
  have c0 : w4.cell? ⟨w.heap.size + 1, 0, none⟩ = some (.int .i64 n) := P4.out.cell 0
  have c1 : w4.cell? ⟨w.heap.size + 1, 1, none⟩ = some (.int .i64 p) := P4.out.cell 1
  have c2 : w4.cell? ⟨w.heap.size + 1, 2, none⟩ = some (.int .u32 (U v)) := P4.out.cell 2
  go_upto_region 5 with (first
    | (refine wpList_ldS (flC f) _ A4.out (by rfl) rfl rfl Try.underlying25 rfl r13fl_size rfl ?_)
    | (go_at_call 14; (with_reducible refine (HY.out _).mono ?_); rintro e w5 ⟨rfl, hb⟩; have A5 := Lib.hid (A4.out.keep hb); have X5 := Lib.hid (X4.out.keep hb); have Lw5 := Lib.hid (Lw4.out.trans (hb.mono Lw4.out.size)); clear hb)
    | (refine wpList_newS 25 [.int .u32 0, .int .u32 0, .int .u32 0, .int .u32 0, .int .u32 0, .int .u32 0, .int .u32 0, .int .u32 0, .int .u32 0, .int .u32 0, .int .u32 0, .int .u32 0, .int .u32 0, .int .u32 0, .int .u32 0, .int .u32 0, .int .u64 0] (flC X) w5 _ _ rfl rfl rfl rfl rfl r13fl_size rfl rfl (fl_one _) ?_; intro w6 hA hb; have Y6 := Lib.hid hA; have A6 := Lib.hid (A5.out.keep hb); have X6 := Lib.hid (X5.out.keep hb); have Lw6 := Lib.hid (Lw5.out.trans (hb.mono Lw5.out.size)); clear hA hb))
  clear c0 c1 c2
  have ea : ∀ W, Below w6.heap.size w6 W → (run_ex (loadOf 25) (.pointer (some ⟨w.heap.size, 0, none⟩)) W).choose = .ok (.value (.agg (flC f).toArray)) W := fun W h => ld13R_at (A6.out.keep h)
  have ex : ∀ W, Below w6.heap.size w6 W → (run_ex (loadOf 29) (.pointer (some ⟨w3.heap.size, 0, none⟩)) W).choose = .ok (.value (.agg (flC X).toArray)) W := fun W h => ld13C_at (X6.out.keep h)
  have ey : ∀ W, Below w6.heap.size w6 W → (run_ex (loadOf 25) (.pointer (some ⟨w5.heap.size, 0, none⟩)) W).choose = .ok (.value (.agg (flC X).toArray)) W := fun W h => ld13R_at (Y6.out.keep h)
  have e1 := E1.out
  have e2 := E2.out
  have S0 : Below w6.heap.size w6 w6 := Below.refl _ _
  go_region_held3 (fun W => Below w6.heap.size w6 W) (first | assumption | exact S0.drew) (first
    | (go_at_call 15; (with_reducible refine (HL.out _).mono ?_); rintro e v1 ⟨rfl, hb⟩; have S1 := Below.trans (by assumption) (hb.mono (Below.size (by assumption))); clear hb)
    | (go_at_call 16; (with_reducible refine (HM.out _).mono ?_); rintro e v2 ⟨rfl, hb⟩; have S2 := S1.trans (hb.mono S1.size); clear hb))
  go_wp2
  go_ret
  exact ⟨by simp, Lw6.out.trans (Below.mono (by assumption) Lw6.out.size)⟩
end Go.Proofs.Ytedpeojgpnnddaa
