/- AluMoves: what is put in a place, what is read of a word, and how many bytes, is the document's. -/
import Derived.Test.YtffmbpenhgbhnaaAluV
namespace Go.Proofs.Ytffmbpenhgbhnaa
open Go.RowKit Bm

set_option maxHeartbeats 2000000 in
theorem aluMoves_walk (a0 : Int) (b0 : (Lit.int .i64 a0).wf = true) (a1 : Int) (b1 : (Lit.int .u32 a1).wf = true) (a2 : Int) (b2 : (Lit.int .u32 a2).wf = true) (w : World) :
    Calls Try.prog 4 #[.int .i64 a0, .int .u32 a1, .int .u32 a2] w fun e w' => e = .returned (.bool true) ∧ Below w.heap.size w w' := by
  have bd := bounds_i64 b0
  have be := bounds_u32 b1
  have bf := bounds_u32 b2
  obtain ⟨a, rfl⟩ := U_of be.1 (by omega)
  obtain ⟨b, rfl⟩ := U_of bf.1 (by omega)
  have HA := Lib.hid alive12_any
  have HD := Lib.hid (fun W => amo_any a0 a b W)
  have HE := Lib.hid (fun W => ramo_any a0 a b W bd.1 bd.2)
  have HB := Lib.hid (fun W => load_any a0 a W)
  have HC := Lib.hid (fun W => rload_any a0 a W bd.1 bd.2)
  have HF := Lib.hid (fun W => size_any a0 W)
  have HG := Lib.hid (fun W => rsize_any a0 W)
  clear b0 b1 b2 bd be bf
  generalize amM a0 a b = r1 at *
  generalize amIs a0 = r2 at *
  generalize ldM a0 a = r3 at *
  generalize ldIs a0 = r4 at *
  generalize szM a0 = r5 at *
  go_enter Try.func4, Try.ntmps4
  go_wp2_with (first
    | (go_at_call 11; (with_reducible refine (HA.out _).mono ?_); rintro e w5 ⟨rfl, k, hq⟩; replace hq := hq.symm; subst hq)
    | (go_at_call 16; (with_reducible refine (HD.out _).mono ?_); rintro e w5 ⟨rfl, k, hq⟩; replace hq := hq.symm; subst hq)
    | (go_at_call 17; (with_reducible refine (HE.out _).mono ?_); rintro e w5 ⟨rfl, hq⟩; replace hq := hq.symm; subst hq)
    | (go_at_call 18; (with_reducible refine (HB.out _).mono ?_); rintro e w5 ⟨rfl, hq⟩; replace hq := hq.symm; subst hq)
    | (go_at_call 19; (with_reducible refine (HC.out _).mono ?_); rintro e w5 ⟨rfl, hq⟩; replace hq := hq.symm; subst hq)
    | (go_at_call 20; (with_reducible refine (HF.out _).mono ?_); rintro e w5 ⟨rfl, hq⟩; replace hq := hq.symm; subst hq)
    | (go_at_call 21; (with_reducible refine (HG.out _).mono ?_); rintro e w6 ⟨rfl, hb⟩; have BL := Lib.hid hb; clear hb))
  go_ret
  exact ⟨by simp, (below_drewN (Below.refl _ w) _).trans BL.out⟩
end Go.Proofs.Ytffmbpenhgbhnaa
