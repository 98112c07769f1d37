/- A store whose power may go: what an act, a cut, a new start, and a Mount leave in memory. | What an argument that is a slice of lives reads as (layer ftl). | The statement FtlLives' helper heavy, and the document's Same of any two rows (layer ftl). -/
import Derived.Test.YtnfgpjfldgocaaaGreatFtlL
import Derived.Test.YtnfgpjfldgocaaaGreatFtlWalk3
import Derived.Test.YtnfgpjfldgocaaaGreatFtlOp
namespace Go.Proofs.YtnfgpjfldgocaaaGreat
open Go.RowKit Bm Go.Shelf
section
variable {B p f q s k g : Nat} {K : Nat → Prop} {Q W T E : Int} {V V' : BitVec 32 → List (BitVec 32)} {d d' : DrvM} {x : StoM} {w w' : World}
theorem Dv.mount (h : Dv B p f q k K d w) (ok : DrvOk k d) (k5 : 5 ≤ k) (hk : k ≤ 19) (hu : d.f.chip.up = true) (t0 : 0 ≤ d.t) (t1 : d.t ≤ 80000000000000) :
    Calls Tryz.prog 19 #[.pointer (some ⟨q, 0, none⟩)] w (OpenOut B p f q w.heap.size k K (mRep k (dLook d) (x0 d.f.chip.ws)) w) :=
  topMount_any (openM_any h ok k5 (by omega) hu (fun g W hs => hs.repair (look_calm ok) hk (by unfold dLook; split <;> exact t0) (by unfold dLook; split <;> exact t1)))
theorem mRep_ticks (d : DrvM) (x : StoM) : d.t ≤ (mRep k d x).1.t ∧ (mRep k d x).1.t ≤ d.t + 100 * (k : Int) + 100 := by
  have h := fix_ticks (List.range k) d x
  rw [List.length_range] at h
  unfold mRep
  split
  · omega
  · unfold mTail
    split
    · dsimp only
      omega
    · cases ht : tailB (mFix d x (List.range k)).2.1 with
      | none =>
        rw [mTl_none ht]
        dsimp only
        omega
      | some b =>
        rw [mTl_some ht]
        have := mRenew_ticks (mFix d x (List.range k)).1 (mFix d x (List.range k)).2.1 b
        omega
end
end Go.Proofs.YtnfgpjfldgocaaaGreat
namespace Go.Proofs.YtnfgpjfldgocaaaGreat
open Go.ChangeShapes Go.WideShapes Go.ChangeAt Go.RowKit Bm
structure LifeM where
  A : Option Addr
  n : Nat
  cap : Nat
  acts : List Act8
  fuse : Int
  pick : BitVec 32
  MA : Option Addr
  mn : Nat
  mcap : Nat
  ms : List Int
  deriving Inhabited
section
variable {w w' : World} {A : Option Addr} {n cap : Nat} {ms : List Int} {xs : List LifeM} {x : LifeM}
end
section
variable {H : Type} {enc : TypeId × Value → H} {W : World}
end
end Go.Proofs.YtnfgpjfldgocaaaGreat
namespace Go.Proofs.YtnfgpjfldgocaaaGreat
open Go.RowKit Bm Go.Shelf
section
variable {w w' : World} {A A' : Option Addr} {n cap cap' : Nat} {ys zs : Nat → List (BitVec 32)}
end
end Go.Proofs.YtnfgpjfldgocaaaGreat
