/- AluPicks: the lesser and the greater of two are these two; what is done at once is done as by numbers. -/
import Derived.Test.YtffmbpenhgbhnaaAluPkB
import Derived.Test.YtffmbpenhgbhnaaAluPkC
namespace Go.Proofs.Ytffmbpenhgbhnaa
open Go.RowKit Bm

theorem aluPicks_walk (a0 : Int) (b0 : (Lit.int .u32 a0).wf = true) (a1 : Int) (b1 : (Lit.int .u32 a1).wf = true) (w : World) :
    Calls Try.prog 10 #[.int .u32 a0, .int .u32 a1] w fun e w' => e = .returned (.bool true) ∧ Below w.heap.size w w' := by
  have be := bounds_u32 b0
  have bf := bounds_u32 b1
  obtain ⟨a, rfl⟩ := U_of be.1 (by omega)
  obtain ⟨b, rfl⟩ := U_of bf.1 (by omega)
  have P := pk12 a b
  by_cases hab : a = b
  · subst hab
    obtain ⟨e1, e2, e3, e4⟩ := pk_same a
    rw [e1, e2, e3, e4] at P
    exact pkw12_same a _ _ P w
  · obtain ⟨h1, h2⟩ := pk_pair a b hab
    rcases h1 with ⟨e1, e2⟩ | ⟨e1, e2⟩ <;> rcases h2 with ⟨e3, e4⟩ | ⟨e3, e4⟩ <;> rw [e1, e2, e3, e4] at P
    · exact pkw12_00 a b hab _ _ P w
    · exact pkw12_01 a b hab _ _ P w
    · exact pkw12_10 a b hab _ _ P w
    · exact pkw12_11 a b hab _ _ P w
end Go.Proofs.Ytffmbpenhgbhnaa
