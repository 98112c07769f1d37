/- NorActs' walk, in the order of the statement's parameters. -/
import Derived.Test.YtmhkcbdkimnakaaNorWalk8
namespace Go.Proofs.Ytmhkcbdkimnakaa
open Go.RowKit Bm
theorem norActs_law (a0 : Int) (b0 : (Lit.int .u8 a0).wf = true) (a1 : Int) (b1 : (Lit.int .u8 a1).wf = true) (A : Option Addr) (n cap : Nat) (xs : List ActM) (w : World) (hr : ReadsA w A n cap xs) :
    Calls Try.prog 3 #[.int .u8 a0, .int .u8 a1, .slice A n cap] w fun e w' => e = .returned (.bool true) ∧ Below w.heap.size w w' := by
  have c0 := bounds_u8 b0
  have c1 := bounds_u8 b1
  exact norActs_walk a0 a1 A n cap xs w c0.1 (by omega) c1.1 (by omega) hr
end Go.Proofs.Ytmhkcbdkimnakaa
