/- AluDoes: what any two numbers come to, and whether a branch goes, is the document's. -/
import Derived.Test.YtffmbpenhgbhnaaAluV
namespace Go.Proofs.Ytffmbpenhgbhnaa
open Go.RowKit Bm

set_option maxHeartbeats 2000000 in
theorem aluDoes_walk (a0 : Int) (b0 : (Lit.int .i64 a0).wf = true) (a1 : Int) (b1 : (Lit.int .u32 a1).wf = true) (a2 : Int) (b2 : (Lit.int .u32 a2).wf = true) (w : World) :
    Calls Try.prog 3 #[.int .i64 a0, .int .u32 a1, .int .u32 a2] w fun e w' => e = .returned (.bool true) ∧ Below w.heap.size w w' := by
  have bd := bounds_i64 b0
  have be := bounds_u32 b1
  have bf := bounds_u32 b2
  obtain ⟨a, rfl⟩ := U_of be.1 (by omega)
  obtain ⟨b, rfl⟩ := U_of bf.1 (by omega)
  have HA := Lib.hid alive12_any
  have HD := Lib.hid (fun W => do_any a0 a b W)
  have HE := Lib.hid (fun W => rdo_any a0 a b W bd.1 bd.2)
  have HB := Lib.hid (fun W => branch_any a0 a b W)
  have HC := Lib.hid (fun W => rbranch_any a0 a b W bd.1 bd.2)
  clear b0 b1 b2 bd be bf
  generalize doM a0 a b = r1 at *
  generalize doIs a0 = r2 at *
  generalize brM a0 a b = r3 at *
  generalize brIs a0 = r4 at *
  go_enter Try.func3, Try.ntmps3
  go_wp2_with (first
    | (go_at_call 11; (with_reducible refine (HA.out _).mono ?_); rintro e w5 ⟨rfl, k, hq⟩; replace hq := hq.symm; subst hq)
    | (go_at_call 12; (with_reducible refine (HD.out _).mono ?_); rintro e w5 ⟨rfl, k, hq⟩; replace hq := hq.symm; subst hq)
    | (go_at_call 13; (with_reducible refine (HE.out _).mono ?_); rintro e w6 ⟨rfl, hb⟩; have BL := Lib.hid hb; clear hb)
    | (go_at_call 14; (with_reducible refine (HB.out _).mono ?_); rintro e w5 ⟨rfl, hq⟩; replace hq := hq.symm; subst hq)
    | (go_at_call 15; (with_reducible refine (HC.out _).mono ?_); rintro e w5 ⟨rfl, hq⟩; replace hq := hq.symm; subst hq))
  go_ret
  exact ⟨by simp, (below_drewN (Below.refl _ w) _).trans BL.out⟩
end Go.Proofs.Ytffmbpenhgbhnaa
