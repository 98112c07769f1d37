/-
  No cell of these rows narrows 'for every input' (looked for: loops, veiled, ifaces, maps, wideKeys, modest, calm, conditions, laid).
  DERIVED. THE GIVEN ROWS OF THIS SEAT. 7 by the template 'for every input the law returns true; each argument reads behind the call as it read before'; 0 by the template 'total and deterministic' (their statements: YtnfgpjfldgocaaaGreatTotals.lean).
  GIVEN WITH THE SEED: the statements are not yours to turn. If you find one false, say at which input.
  Laid BY PROGRAM, IN A SANDBOX (cutbox-rows.mjs): the forced cells as the released guide's own fill.sh prints them over the translation cab8b6c6d026f115… (all of the seat's roots in one cut). By AI agents, Wed Nov 11 2026. No macro, syntax, notation, axiom, sorry.
-/
import Derived.Test.YtnfgpjfldgocaaaGreatChecked
import GoSem.Claim
import GoSem.ClaimJoined
import GoSem.ClaimMapViews
import Derived.JoinedTies
import Derived.KernelRfl
namespace Go.Proofs.YtnfgpjfldgocaaaGreat
/- THE CELL 'sum', in the pinned program and in every row, IS THE sha256 OF THE DUMP (.gsa) THAT YtnfgpjfldgocaaaGreatProg.lean LOADS. Nothing in Lean hashes anything: it is a label: what it is worth is what the hold of that sum in a sandbox is worth. -/
noncomputable def Tryz.pinned : Pinned := { name := "ytnfgpjfldgocaaagreat", sum := "cab8b6c6d026f11551f429f2f491c15607508316ba3d4feedd7e46d645f2c61b", checked := Tryz.checked }
namespace Rows
def none {H : Type} : Left H := { results := [], args := [] }

/-- 'dioptralaw08.FtlKeeps': WHATEVER THE INPUT: true; the input reads as it did. -/
def ftlKeepsSpec : ChangeSpec := { name := "ftlKeeps", fn := fun _ => fun
  | [d1, d2, d3] => { results := [.lit (.bool true)], args := [d1, d2, d3] }
  | _ => none }
def ftlKeepsRow : OpenClaim := { program := "ytnfgpjfldgocaaagreat", sum := "cab8b6c6d026f11551f429f2f491c15607508316ba3d4feedd7e46d645f2c61b", func := "dioptra/dioptralaw08.FtlKeeps", spec := "ftlKeeps", unfollowed := true, recurses := true, apart := false }
def FtlKeepsSaid : Prop := ftlKeepsRow.holds Tryz.pinned (OpenSpec.ofChange ftlKeepsSpec)

/-- ITS FALSE NEIGHBOUR: 'it returns false'. Refute it at one input. -/
def ftlKeepsWrong : ChangeSpec := { name := "ftlKeeps", fn := fun _ => fun
  | [d1, d2, d3] => { results := [.lit (.bool false)], args := [d1, d2, d3] }
  | _ => none }
def FtlKeepsWrongFalsely : Prop := ftlKeepsRow.holds Tryz.pinned (OpenSpec.ofChange ftlKeepsWrong)

/-- 'dioptralaw08.FtlLives': WHATEVER THE INPUT: true; the input reads as it did. -/
def ftlLivesSpec : ChangeSpec := { name := "ftlLives", fn := fun _ => fun
  | [d1, d2] => { results := [.lit (.bool true)], args := [d1, d2] }
  | _ => none }
def ftlLivesRow : OpenClaim := { program := "ytnfgpjfldgocaaagreat", sum := "cab8b6c6d026f11551f429f2f491c15607508316ba3d4feedd7e46d645f2c61b", func := "dioptra/dioptralaw08.FtlLives", spec := "ftlLives", unfollowed := true, recurses := true, apart := false }
def FtlLivesSaid : Prop := ftlLivesRow.holds Tryz.pinned (OpenSpec.ofChange ftlLivesSpec)

/-- ITS FALSE NEIGHBOUR: 'it returns false'. Refute it at one input. -/
def ftlLivesWrong : ChangeSpec := { name := "ftlLives", fn := fun _ => fun
  | [d1, d2] => { results := [.lit (.bool false)], args := [d1, d2] }
  | _ => none }
def FtlLivesWrongFalsely : Prop := ftlLivesRow.holds Tryz.pinned (OpenSpec.ofChange ftlLivesWrong)

/-- 'dioptralaw08.FtlWears': WHATEVER THE INPUT: true; the input reads as it did. -/
def ftlWearsSpec : ChangeSpec := { name := "ftlWears", fn := fun _ => fun
  | [d1, d2] => { results := [.lit (.bool true)], args := [d1, d2] }
  | _ => none }
def ftlWearsRow : OpenClaim := { program := "ytnfgpjfldgocaaagreat", sum := "cab8b6c6d026f11551f429f2f491c15607508316ba3d4feedd7e46d645f2c61b", func := "dioptra/dioptralaw08.FtlWears", spec := "ftlWears", unfollowed := true, recurses := true, apart := false }
def FtlWearsSaid : Prop := ftlWearsRow.holds Tryz.pinned (OpenSpec.ofChange ftlWearsSpec)

/-- ITS FALSE NEIGHBOUR: 'it returns false'. Refute it at one input. -/
def ftlWearsWrong : ChangeSpec := { name := "ftlWears", fn := fun _ => fun
  | [d1, d2] => { results := [.lit (.bool false)], args := [d1, d2] }
  | _ => none }
def FtlWearsWrongFalsely : Prop := ftlWearsRow.holds Tryz.pinned (OpenSpec.ofChange ftlWearsWrong)

/-- 'dioptralaw08.FtlHeads': WHATEVER THE INPUT: true; the input reads as it did. -/
def ftlHeadsSpec : ChangeSpec := { name := "ftlHeads", fn := fun _ => fun
  | [d] => { results := [.lit (.bool true)], args := [d] }
  | _ => none }
def ftlHeadsRow : OpenClaim := { program := "ytnfgpjfldgocaaagreat", sum := "cab8b6c6d026f11551f429f2f491c15607508316ba3d4feedd7e46d645f2c61b", func := "dioptra/dioptralaw08.FtlHeads", spec := "ftlHeads", unfollowed := true, recurses := true, apart := false }
def FtlHeadsSaid : Prop := ftlHeadsRow.holds Tryz.pinned (OpenSpec.ofChange ftlHeadsSpec)

/-- ITS FALSE NEIGHBOUR: 'it returns false'. Refute it at one input. -/
def ftlHeadsWrong : ChangeSpec := { name := "ftlHeads", fn := fun _ => fun
  | [d] => { results := [.lit (.bool false)], args := [d] }
  | _ => none }
def FtlHeadsWrongFalsely : Prop := ftlHeadsRow.holds Tryz.pinned (OpenSpec.ofChange ftlHeadsWrong)

/-- 'dioptralaw08.FtlNobody': WHATEVER THE INPUT: true; the input reads as it did. -/
def ftlNobodySpec : ChangeSpec := { name := "ftlNobody", fn := fun _ => fun
  | [d1, d2] => { results := [.lit (.bool true)], args := [d1, d2] }
  | _ => none }
def ftlNobodyRow : OpenClaim := { program := "ytnfgpjfldgocaaagreat", sum := "cab8b6c6d026f11551f429f2f491c15607508316ba3d4feedd7e46d645f2c61b", func := "dioptra/dioptralaw08.FtlNobody", spec := "ftlNobody", unfollowed := true, recurses := true, apart := false }
def FtlNobodySaid : Prop := ftlNobodyRow.holds Tryz.pinned (OpenSpec.ofChange ftlNobodySpec)

/-- ITS FALSE NEIGHBOUR: 'it returns false'. Refute it at one input. -/
def ftlNobodyWrong : ChangeSpec := { name := "ftlNobody", fn := fun _ => fun
  | [d1, d2] => { results := [.lit (.bool false)], args := [d1, d2] }
  | _ => none }
def FtlNobodyWrongFalsely : Prop := ftlNobodyRow.holds Tryz.pinned (OpenSpec.ofChange ftlNobodyWrong)

/-- 'dioptralaw08.FtlRanges': WHATEVER THE INPUT: true; the input reads as it did. -/
def ftlRangesSpec : ChangeSpec := { name := "ftlRanges", fn := fun _ => fun
  | [d1, d2] => { results := [.lit (.bool true)], args := [d1, d2] }
  | _ => none }
def ftlRangesRow : OpenClaim := { program := "ytnfgpjfldgocaaagreat", sum := "cab8b6c6d026f11551f429f2f491c15607508316ba3d4feedd7e46d645f2c61b", func := "dioptra/dioptralaw08.FtlRanges", spec := "ftlRanges", unfollowed := true, recurses := true, apart := false }
def FtlRangesSaid : Prop := ftlRangesRow.holds Tryz.pinned (OpenSpec.ofChange ftlRangesSpec)

/-- ITS FALSE NEIGHBOUR: 'it returns false'. Refute it at one input. -/
def ftlRangesWrong : ChangeSpec := { name := "ftlRanges", fn := fun _ => fun
  | [d1, d2] => { results := [.lit (.bool false)], args := [d1, d2] }
  | _ => none }
def FtlRangesWrongFalsely : Prop := ftlRangesRow.holds Tryz.pinned (OpenSpec.ofChange ftlRangesWrong)

/-- 'dioptralaw08.FtlAgain': WHATEVER THE INPUT: true; the input reads as it did. -/
def ftlAgainSpec : ChangeSpec := { name := "ftlAgain", fn := fun _ => fun
  | [d] => { results := [.lit (.bool true)], args := [d] }
  | _ => none }
def ftlAgainRow : OpenClaim := { program := "ytnfgpjfldgocaaagreat", sum := "cab8b6c6d026f11551f429f2f491c15607508316ba3d4feedd7e46d645f2c61b", func := "dioptra/dioptralaw08.FtlAgain", spec := "ftlAgain", unfollowed := true, recurses := true, apart := false }
def FtlAgainSaid : Prop := ftlAgainRow.holds Tryz.pinned (OpenSpec.ofChange ftlAgainSpec)

/-- ITS FALSE NEIGHBOUR: 'it returns false'. Refute it at one input. -/
def ftlAgainWrong : ChangeSpec := { name := "ftlAgain", fn := fun _ => fun
  | [d] => { results := [.lit (.bool false)], args := [d] }
  | _ => none }
def FtlAgainWrongFalsely : Prop := ftlAgainRow.holds Tryz.pinned (OpenSpec.ofChange ftlAgainWrong)

/- THE SECOND FORM. 'bulk': how many values and letters a reading holds, each counted each time it is reached (what is shared counts as often as it is met; a slice's spare places count too). A statement '..UptoSaid' is the law's where the arguments, and the package variables that the reading takes, are together of bulk at most 1048576: NARROWER than '..Said'. Prove '..Said' where nothing that the law and all that it calls make is longer than what came in: it says more and counts as full. Else prove '..UptoSaid'. A law counts once. -/
mutual
def uptoBulk {H : Type} : DataW H → Nat
  | .lit (.string bytes) => bytes.length + 1
  | .lit _ => 1
  | .nil => 1
  | .ptr d => uptoBulk d + 1
  | .slice elems spare => uptoBulkAll elems + uptoBulkAll spare + 1
  | .agg parts => uptoBulkAll parts + 1
  | .iface _ d => uptoBulk d + 1
  | .map entries => uptoBulkEntries entries + 1
  | .held _ => 1
def uptoBulkAll {H : Type} : List (DataW H) → Nat
  | [] => 0
  | d :: r => uptoBulk d + uptoBulkAll r
def uptoBulkEntries {H : Type} : List (Lit × DataW H) → Nat
  | [] => 0
  | x :: r => uptoBulkEntry x + uptoBulkEntries r
def uptoBulkEntry {H : Type} : Lit × DataW H → Nat
  | (.string bytes, d) => bytes.length + uptoBulk d + 1
  | (_, d) => uptoBulk d + 1
 end
def uptoSmall : (H : Type) → List (DataW H) → Bool := fun _ ds => decide (uptoBulkAll ds ≤ 1048576)
def OpenSpec.upto (s : _root_.Go.ChangeSpec) : _root_.Go.OpenSpec := { _root_.Go.OpenSpec.ofChange s with cond := some uptoSmall }

/-- 'dioptralaw08.FtlKeeps', WHERE WHAT IT READS IS OF BULK AT MOST 1048576: true; the input reads as it did. -/
def ftlKeepsUptoRow : OpenClaim := { program := "ytnfgpjfldgocaaagreat", sum := "cab8b6c6d026f11551f429f2f491c15607508316ba3d4feedd7e46d645f2c61b", func := "dioptra/dioptralaw08.FtlKeeps", spec := "ftlKeeps", unfollowed := true, recurses := true, apart := false, narrowed := true }
def FtlKeepsUptoSaid : Prop := ftlKeepsUptoRow.holds Tryz.pinned (OpenSpec.upto ftlKeepsSpec)

/-- 'dioptralaw08.FtlLives', WHERE WHAT IT READS IS OF BULK AT MOST 1048576: true; the input reads as it did. -/
def ftlLivesUptoRow : OpenClaim := { program := "ytnfgpjfldgocaaagreat", sum := "cab8b6c6d026f11551f429f2f491c15607508316ba3d4feedd7e46d645f2c61b", func := "dioptra/dioptralaw08.FtlLives", spec := "ftlLives", unfollowed := true, recurses := true, apart := false, narrowed := true }
def FtlLivesUptoSaid : Prop := ftlLivesUptoRow.holds Tryz.pinned (OpenSpec.upto ftlLivesSpec)

/-- 'dioptralaw08.FtlWears', WHERE WHAT IT READS IS OF BULK AT MOST 1048576: true; the input reads as it did. -/
def ftlWearsUptoRow : OpenClaim := { program := "ytnfgpjfldgocaaagreat", sum := "cab8b6c6d026f11551f429f2f491c15607508316ba3d4feedd7e46d645f2c61b", func := "dioptra/dioptralaw08.FtlWears", spec := "ftlWears", unfollowed := true, recurses := true, apart := false, narrowed := true }
def FtlWearsUptoSaid : Prop := ftlWearsUptoRow.holds Tryz.pinned (OpenSpec.upto ftlWearsSpec)

/-- 'dioptralaw08.FtlHeads', WHERE WHAT IT READS IS OF BULK AT MOST 1048576: true; the input reads as it did. -/
def ftlHeadsUptoRow : OpenClaim := { program := "ytnfgpjfldgocaaagreat", sum := "cab8b6c6d026f11551f429f2f491c15607508316ba3d4feedd7e46d645f2c61b", func := "dioptra/dioptralaw08.FtlHeads", spec := "ftlHeads", unfollowed := true, recurses := true, apart := false, narrowed := true }
def FtlHeadsUptoSaid : Prop := ftlHeadsUptoRow.holds Tryz.pinned (OpenSpec.upto ftlHeadsSpec)

/-- 'dioptralaw08.FtlNobody', WHERE WHAT IT READS IS OF BULK AT MOST 1048576: true; the input reads as it did. -/
def ftlNobodyUptoRow : OpenClaim := { program := "ytnfgpjfldgocaaagreat", sum := "cab8b6c6d026f11551f429f2f491c15607508316ba3d4feedd7e46d645f2c61b", func := "dioptra/dioptralaw08.FtlNobody", spec := "ftlNobody", unfollowed := true, recurses := true, apart := false, narrowed := true }
def FtlNobodyUptoSaid : Prop := ftlNobodyUptoRow.holds Tryz.pinned (OpenSpec.upto ftlNobodySpec)

/-- 'dioptralaw08.FtlRanges', WHERE WHAT IT READS IS OF BULK AT MOST 1048576: true; the input reads as it did. -/
def ftlRangesUptoRow : OpenClaim := { program := "ytnfgpjfldgocaaagreat", sum := "cab8b6c6d026f11551f429f2f491c15607508316ba3d4feedd7e46d645f2c61b", func := "dioptra/dioptralaw08.FtlRanges", spec := "ftlRanges", unfollowed := true, recurses := true, apart := false, narrowed := true }
def FtlRangesUptoSaid : Prop := ftlRangesUptoRow.holds Tryz.pinned (OpenSpec.upto ftlRangesSpec)

/-- 'dioptralaw08.FtlAgain', WHERE WHAT IT READS IS OF BULK AT MOST 1048576: true; the input reads as it did. -/
def ftlAgainUptoRow : OpenClaim := { program := "ytnfgpjfldgocaaagreat", sum := "cab8b6c6d026f11551f429f2f491c15607508316ba3d4feedd7e46d645f2c61b", func := "dioptra/dioptralaw08.FtlAgain", spec := "ftlAgain", unfollowed := true, recurses := true, apart := false, narrowed := true }
def FtlAgainUptoSaid : Prop := ftlAgainUptoRow.holds Tryz.pinned (OpenSpec.upto ftlAgainSpec)

end Rows
end Go.Proofs.YtnfgpjfldgocaaaGreat
