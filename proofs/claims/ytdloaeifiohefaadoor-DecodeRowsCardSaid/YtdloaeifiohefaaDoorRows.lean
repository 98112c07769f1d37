/-
  NARROWER THAN 'FOR EVERY INPUT', by the rows' own cells (each row's printed sentence says how): DecodeTells: laid · DecodeEncodes: laid · DecodeBack: laid · DecodeFields: laid · DecodeRows: laid · DecodeRegisters: laid.
  DERIVED. THE GIVEN ROWS OF THIS SEAT. 6 by the template 'for every input the law returns true; each argument reads behind the call as it read before'; 0 by the template 'total and deterministic' (their statements: YtdloaeifiohefaaDoorTotals.lean).
  GIVEN WITH THE SEED: the statements are not yours to turn. If you find one false, say at which input.
  Laid BY PROGRAM, IN A SANDBOX (cutbox-rows.mjs): the forced cells as the released guide's own fill.sh prints them over the translation 646ac3cbd7a64398… (all of the seat's roots in one cut). By AI agents, Wed Nov 11 2026. No macro, syntax, notation, axiom, sorry.
-/
import Derived.Test.YtdloaeifiohefaaDoorChecked
import GoSem.Claim
import GoSem.ClaimJoined
import GoSem.ClaimMapViews
import Derived.JoinedTies
import Derived.KernelRfl
namespace Go.Proofs.YtdloaeifiohefaaDoor
/- THE CELL 'sum', in the pinned program and in every row, IS THE sha256 OF THE DUMP (.gsa) THAT YtdloaeifiohefaaDoorProg.lean LOADS. Nothing in Lean hashes anything: it is a label: what it is worth is what the hold of that sum in a sandbox is worth. -/
noncomputable def Tryd.pinned : Pinned := { name := "ytdloaeifiohefaadoor", sum := "646ac3cbd7a643983b429b4270b55aa5b2081bb3417bec44419de7f47ebb3cdb", checked := Tryd.checked }
namespace Rows
def none {H : Type} : Left H := { results := [], args := [] }

/- WHAT THE LISTED PACKAGE-LEVEL VARIABLES READ AS WHEN THE CALL BEGINS. Each datum BY PROGRAM (the guide's laid-datum.mjs) off the statement by which the dump's own 'gosem.cut.vars' lays the variable. In a bare row this is a premise. The card (YtdloaeifiohefaaDoorCards.lean) ties it to the program's text. -/
def laid_dioptra_decode_formats {H : Type} : DataW H := .agg [.agg [.lit (.int .u32 127), .lit (.int .i64 0)], .agg [.lit (.int .u32 127), .lit (.int .i64 21)], .agg [.lit (.int .u32 28799), .lit (.int .i64 12)], .agg [.lit (.int .u32 28799), .lit (.int .i64 13)], .agg [.lit (.int .u32 28799), .lit (.int .i64 12)], .agg [.lit (.int .u32 4261441663), .lit (.int .i64 0)], .agg [.lit (.int .u32 4261441663), .lit (.int .i64 0)], .agg [.lit (.int .u32 4160778367), .lit (.int .i64 0)], .agg [.lit (.int .u32 4193284223), .lit (.int .i64 0)], .agg [.lit (.int .u32 28799), .lit (.int .i64 0)], .agg [.lit (.int .u32 4294967295), .lit (.int .i64 0)], .agg [.lit (.int .u32 4261445631), .lit (.int .i64 0)], .agg [.lit (.int .u32 28799), .lit (.int .i64 0)]]
def laid_dioptra_decode_patterns {H : Type} : DataW H := .agg [.lit (.int .u32 0), .lit (.int .u32 55), .lit (.int .u32 23), .lit (.int .u32 111), .lit (.int .u32 103), .lit (.int .u32 99), .lit (.int .u32 4195), .lit (.int .u32 16483), .lit (.int .u32 20579), .lit (.int .u32 24675), .lit (.int .u32 28771), .lit (.int .u32 3), .lit (.int .u32 4099), .lit (.int .u32 8195), .lit (.int .u32 16387), .lit (.int .u32 20483), .lit (.int .u32 35), .lit (.int .u32 4131), .lit (.int .u32 8227), .lit (.int .u32 19), .lit (.int .u32 8211), .lit (.int .u32 12307), .lit (.int .u32 16403), .lit (.int .u32 24595), .lit (.int .u32 28691), .lit (.int .u32 4115), .lit (.int .u32 20499), .lit (.int .u32 1073762323), .lit (.int .u32 51), .lit (.int .u32 1073741875), .lit (.int .u32 4147), .lit (.int .u32 8243), .lit (.int .u32 12339), .lit (.int .u32 16435), .lit (.int .u32 20531), .lit (.int .u32 1073762355), .lit (.int .u32 24627), .lit (.int .u32 28723), .lit (.int .u32 33554483), .lit (.int .u32 33558579), .lit (.int .u32 33562675), .lit (.int .u32 33566771), .lit (.int .u32 33570867), .lit (.int .u32 33574963), .lit (.int .u32 33579059), .lit (.int .u32 33583155), .lit (.int .u32 268443695), .lit (.int .u32 402661423), .lit (.int .u32 134225967), .lit (.int .u32 8239), .lit (.int .u32 536879151), .lit (.int .u32 1610620975), .lit (.int .u32 1073750063), .lit (.int .u32 2147491887), .lit (.int .u32 2684362799), .lit (.int .u32 3221233711), .lit (.int .u32 3758104623), .lit (.int .u32 15), .lit (.int .u32 115), .lit (.int .u32 1048691), .lit (.int .u32 807403635), .lit (.int .u32 270532723), .lit (.int .u32 273678451), .lit (.int .u32 301990003), .lit (.int .u32 4211), .lit (.int .u32 8307), .lit (.int .u32 12403), .lit (.int .u32 20595), .lit (.int .u32 24691), .lit (.int .u32 28787)]

/-- 'dioptralaw11.DecodeTells': WHATEVER THE INPUT: true; the input reads as it did. -/
def decodeTellsSpec : ChangeSpec := { name := "decodeTells", fn := fun _ => fun
  | [d] => { results := [.lit (.bool true)], args := [d] }
  | _ => none }
def decodeTellsRow : OpenClaim := { program := "ytdloaeifiohefaadoor", sum := "646ac3cbd7a643983b429b4270b55aa5b2081bb3417bec44419de7f47ebb3cdb", func := "dioptra/dioptralaw11.DecodeTells", spec := "decodeTells", named := ["dioptra/decode.formats", "dioptra/decode.patterns"], apart := false, laid := [("dioptra/decode.formats", laid_dioptra_decode_formats), ("dioptra/decode.patterns", laid_dioptra_decode_patterns)] }
def DecodeTellsSaid : Prop := decodeTellsRow.holds Tryd.pinned (OpenSpec.ofChange decodeTellsSpec)

/-- ITS FALSE NEIGHBOUR: 'it returns false'. Refute it at one input. -/
def decodeTellsWrong : ChangeSpec := { name := "decodeTells", fn := fun _ => fun
  | [d] => { results := [.lit (.bool false)], args := [d] }
  | _ => none }
def DecodeTellsWrongFalsely : Prop := decodeTellsRow.holds Tryd.pinned (OpenSpec.ofChange decodeTellsWrong)

/-- 'dioptralaw11.DecodeEncodes': WHATEVER THE INPUT: true; the input reads as it did. -/
def decodeEncodesSpec : ChangeSpec := { name := "decodeEncodes", fn := fun _ => fun
  | [d] => { results := [.lit (.bool true)], args := [d] }
  | _ => none }
def decodeEncodesRow : OpenClaim := { program := "ytdloaeifiohefaadoor", sum := "646ac3cbd7a643983b429b4270b55aa5b2081bb3417bec44419de7f47ebb3cdb", func := "dioptra/dioptralaw11.DecodeEncodes", spec := "decodeEncodes", named := ["dioptra/decode.formats", "dioptra/decode.patterns"], apart := false, laid := [("dioptra/decode.formats", laid_dioptra_decode_formats), ("dioptra/decode.patterns", laid_dioptra_decode_patterns)] }
def DecodeEncodesSaid : Prop := decodeEncodesRow.holds Tryd.pinned (OpenSpec.ofChange decodeEncodesSpec)

/-- ITS FALSE NEIGHBOUR: 'it returns false'. Refute it at one input. -/
def decodeEncodesWrong : ChangeSpec := { name := "decodeEncodes", fn := fun _ => fun
  | [d] => { results := [.lit (.bool false)], args := [d] }
  | _ => none }
def DecodeEncodesWrongFalsely : Prop := decodeEncodesRow.holds Tryd.pinned (OpenSpec.ofChange decodeEncodesWrong)

/-- 'dioptralaw11.DecodeBack': WHATEVER THE INPUT: true; the input reads as it did. -/
def decodeBackSpec : ChangeSpec := { name := "decodeBack", fn := fun _ => fun
  | [d1, d2, d3] => { results := [.lit (.bool true)], args := [d1, d2, d3] }
  | _ => none }
def decodeBackRow : OpenClaim := { program := "ytdloaeifiohefaadoor", sum := "646ac3cbd7a643983b429b4270b55aa5b2081bb3417bec44419de7f47ebb3cdb", func := "dioptra/dioptralaw11.DecodeBack", spec := "decodeBack", named := ["dioptra/decode.formats", "dioptra/decode.patterns"], apart := false, laid := [("dioptra/decode.formats", laid_dioptra_decode_formats), ("dioptra/decode.patterns", laid_dioptra_decode_patterns)] }
def DecodeBackSaid : Prop := decodeBackRow.holds Tryd.pinned (OpenSpec.ofChange decodeBackSpec)

/-- ITS FALSE NEIGHBOUR: 'it returns false'. Refute it at one input. -/
def decodeBackWrong : ChangeSpec := { name := "decodeBack", fn := fun _ => fun
  | [d1, d2, d3] => { results := [.lit (.bool false)], args := [d1, d2, d3] }
  | _ => none }
def DecodeBackWrongFalsely : Prop := decodeBackRow.holds Tryd.pinned (OpenSpec.ofChange decodeBackWrong)

/-- 'dioptralaw11.DecodeFields': WHATEVER THE INPUT: true; the input reads as it did. -/
def decodeFieldsSpec : ChangeSpec := { name := "decodeFields", fn := fun _ => fun
  | [d] => { results := [.lit (.bool true)], args := [d] }
  | _ => none }
def decodeFieldsRow : OpenClaim := { program := "ytdloaeifiohefaadoor", sum := "646ac3cbd7a643983b429b4270b55aa5b2081bb3417bec44419de7f47ebb3cdb", func := "dioptra/dioptralaw11.DecodeFields", spec := "decodeFields", named := ["dioptra/decode.formats", "dioptra/decode.patterns"], apart := false, laid := [("dioptra/decode.formats", laid_dioptra_decode_formats), ("dioptra/decode.patterns", laid_dioptra_decode_patterns)] }
def DecodeFieldsSaid : Prop := decodeFieldsRow.holds Tryd.pinned (OpenSpec.ofChange decodeFieldsSpec)

/-- ITS FALSE NEIGHBOUR: 'it returns false'. Refute it at one input. -/
def decodeFieldsWrong : ChangeSpec := { name := "decodeFields", fn := fun _ => fun
  | [d] => { results := [.lit (.bool false)], args := [d] }
  | _ => none }
def DecodeFieldsWrongFalsely : Prop := decodeFieldsRow.holds Tryd.pinned (OpenSpec.ofChange decodeFieldsWrong)

/-- 'dioptralaw11.DecodeRows': WHATEVER THE INPUT: true; the input reads as it did. -/
def decodeRowsSpec : ChangeSpec := { name := "decodeRows", fn := fun _ => fun
  | [d1, d2, d3] => { results := [.lit (.bool true)], args := [d1, d2, d3] }
  | _ => none }
def decodeRowsRow : OpenClaim := { program := "ytdloaeifiohefaadoor", sum := "646ac3cbd7a643983b429b4270b55aa5b2081bb3417bec44419de7f47ebb3cdb", func := "dioptra/dioptralaw11.DecodeRows", spec := "decodeRows", unfollowed := true, recurses := true, named := ["dioptra/decode.formats", "dioptra/decode.patterns"], apart := false, laid := [("dioptra/decode.formats", laid_dioptra_decode_formats), ("dioptra/decode.patterns", laid_dioptra_decode_patterns)] }
def DecodeRowsSaid : Prop := decodeRowsRow.holds Tryd.pinned (OpenSpec.ofChange decodeRowsSpec)

/-- ITS FALSE NEIGHBOUR: 'it returns false'. Refute it at one input. -/
def decodeRowsWrong : ChangeSpec := { name := "decodeRows", fn := fun _ => fun
  | [d1, d2, d3] => { results := [.lit (.bool false)], args := [d1, d2, d3] }
  | _ => none }
def DecodeRowsWrongFalsely : Prop := decodeRowsRow.holds Tryd.pinned (OpenSpec.ofChange decodeRowsWrong)

/-- 'dioptralaw11.DecodeRegisters': WHATEVER THE INPUT: true; the input reads as it did. -/
def decodeRegistersSpec : ChangeSpec := { name := "decodeRegisters", fn := fun _ => fun
  | [d1, d2] => { results := [.lit (.bool true)], args := [d1, d2] }
  | _ => none }
def decodeRegistersRow : OpenClaim := { program := "ytdloaeifiohefaadoor", sum := "646ac3cbd7a643983b429b4270b55aa5b2081bb3417bec44419de7f47ebb3cdb", func := "dioptra/dioptralaw11.DecodeRegisters", spec := "decodeRegisters", named := ["dioptra/decode.formats", "dioptra/decode.patterns"], apart := false, laid := [("dioptra/decode.formats", laid_dioptra_decode_formats), ("dioptra/decode.patterns", laid_dioptra_decode_patterns)] }
def DecodeRegistersSaid : Prop := decodeRegistersRow.holds Tryd.pinned (OpenSpec.ofChange decodeRegistersSpec)

/-- ITS FALSE NEIGHBOUR: 'it returns false'. Refute it at one input. -/
def decodeRegistersWrong : ChangeSpec := { name := "decodeRegisters", fn := fun _ => fun
  | [d1, d2] => { results := [.lit (.bool false)], args := [d1, d2] }
  | _ => none }
def DecodeRegistersWrongFalsely : Prop := decodeRegistersRow.holds Tryd.pinned (OpenSpec.ofChange decodeRegistersWrong)

/- THE SECOND FORM. 'bulk': how many values and letters a reading holds, each counted each time it is reached (what is shared counts as often as it is met; a slice's spare places count too). A statement '..UptoSaid' is the law's where the arguments, and the package variables that the reading takes, are together of bulk at most 1048576: NARROWER than '..Said'. Prove '..Said' where nothing that the law and all that it calls make is longer than what came in: it says more and counts as full. Else prove '..UptoSaid'. A law counts once. -/
mutual
def uptoBulk {H : Type} : DataW H → Nat
  | .lit (.string bytes) => bytes.length + 1
  | .lit _ => 1
  | .nil => 1
  | .ptr d => uptoBulk d + 1
  | .slice elems spare => uptoBulkAll elems + uptoBulkAll spare + 1
  | .agg parts => uptoBulkAll parts + 1
  | .iface _ d => uptoBulk d + 1
  | .map entries => uptoBulkEntries entries + 1
  | .held _ => 1
def uptoBulkAll {H : Type} : List (DataW H) → Nat
  | [] => 0
  | d :: r => uptoBulk d + uptoBulkAll r
def uptoBulkEntries {H : Type} : List (Lit × DataW H) → Nat
  | [] => 0
  | x :: r => uptoBulkEntry x + uptoBulkEntries r
def uptoBulkEntry {H : Type} : Lit × DataW H → Nat
  | (.string bytes, d) => bytes.length + uptoBulk d + 1
  | (_, d) => uptoBulk d + 1
 end
def uptoSmall : (H : Type) → List (DataW H) → Bool := fun _ ds => decide (uptoBulkAll ds ≤ 1048576)
def OpenSpec.upto (s : _root_.Go.ChangeSpec) : _root_.Go.OpenSpec := { _root_.Go.OpenSpec.ofChange s with cond := some uptoSmall }

/-- 'dioptralaw11.DecodeTells', WHERE WHAT IT READS IS OF BULK AT MOST 1048576: true; the input reads as it did. -/
def decodeTellsUptoRow : OpenClaim := { program := "ytdloaeifiohefaadoor", sum := "646ac3cbd7a643983b429b4270b55aa5b2081bb3417bec44419de7f47ebb3cdb", func := "dioptra/dioptralaw11.DecodeTells", spec := "decodeTells", named := ["dioptra/decode.formats", "dioptra/decode.patterns"], apart := false, laid := [("dioptra/decode.formats", laid_dioptra_decode_formats), ("dioptra/decode.patterns", laid_dioptra_decode_patterns)], narrowed := true }
def DecodeTellsUptoSaid : Prop := decodeTellsUptoRow.holds Tryd.pinned (OpenSpec.upto decodeTellsSpec)

/-- 'dioptralaw11.DecodeEncodes', WHERE WHAT IT READS IS OF BULK AT MOST 1048576: true; the input reads as it did. -/
def decodeEncodesUptoRow : OpenClaim := { program := "ytdloaeifiohefaadoor", sum := "646ac3cbd7a643983b429b4270b55aa5b2081bb3417bec44419de7f47ebb3cdb", func := "dioptra/dioptralaw11.DecodeEncodes", spec := "decodeEncodes", named := ["dioptra/decode.formats", "dioptra/decode.patterns"], apart := false, laid := [("dioptra/decode.formats", laid_dioptra_decode_formats), ("dioptra/decode.patterns", laid_dioptra_decode_patterns)], narrowed := true }
def DecodeEncodesUptoSaid : Prop := decodeEncodesUptoRow.holds Tryd.pinned (OpenSpec.upto decodeEncodesSpec)

/-- 'dioptralaw11.DecodeBack', WHERE WHAT IT READS IS OF BULK AT MOST 1048576: true; the input reads as it did. -/
def decodeBackUptoRow : OpenClaim := { program := "ytdloaeifiohefaadoor", sum := "646ac3cbd7a643983b429b4270b55aa5b2081bb3417bec44419de7f47ebb3cdb", func := "dioptra/dioptralaw11.DecodeBack", spec := "decodeBack", named := ["dioptra/decode.formats", "dioptra/decode.patterns"], apart := false, laid := [("dioptra/decode.formats", laid_dioptra_decode_formats), ("dioptra/decode.patterns", laid_dioptra_decode_patterns)], narrowed := true }
def DecodeBackUptoSaid : Prop := decodeBackUptoRow.holds Tryd.pinned (OpenSpec.upto decodeBackSpec)

/-- 'dioptralaw11.DecodeFields', WHERE WHAT IT READS IS OF BULK AT MOST 1048576: true; the input reads as it did. -/
def decodeFieldsUptoRow : OpenClaim := { program := "ytdloaeifiohefaadoor", sum := "646ac3cbd7a643983b429b4270b55aa5b2081bb3417bec44419de7f47ebb3cdb", func := "dioptra/dioptralaw11.DecodeFields", spec := "decodeFields", named := ["dioptra/decode.formats", "dioptra/decode.patterns"], apart := false, laid := [("dioptra/decode.formats", laid_dioptra_decode_formats), ("dioptra/decode.patterns", laid_dioptra_decode_patterns)], narrowed := true }
def DecodeFieldsUptoSaid : Prop := decodeFieldsUptoRow.holds Tryd.pinned (OpenSpec.upto decodeFieldsSpec)

/-- 'dioptralaw11.DecodeRows', WHERE WHAT IT READS IS OF BULK AT MOST 1048576: true; the input reads as it did. -/
def decodeRowsUptoRow : OpenClaim := { program := "ytdloaeifiohefaadoor", sum := "646ac3cbd7a643983b429b4270b55aa5b2081bb3417bec44419de7f47ebb3cdb", func := "dioptra/dioptralaw11.DecodeRows", spec := "decodeRows", unfollowed := true, recurses := true, named := ["dioptra/decode.formats", "dioptra/decode.patterns"], apart := false, laid := [("dioptra/decode.formats", laid_dioptra_decode_formats), ("dioptra/decode.patterns", laid_dioptra_decode_patterns)], narrowed := true }
def DecodeRowsUptoSaid : Prop := decodeRowsUptoRow.holds Tryd.pinned (OpenSpec.upto decodeRowsSpec)

/-- 'dioptralaw11.DecodeRegisters', WHERE WHAT IT READS IS OF BULK AT MOST 1048576: true; the input reads as it did. -/
def decodeRegistersUptoRow : OpenClaim := { program := "ytdloaeifiohefaadoor", sum := "646ac3cbd7a643983b429b4270b55aa5b2081bb3417bec44419de7f47ebb3cdb", func := "dioptra/dioptralaw11.DecodeRegisters", spec := "decodeRegisters", named := ["dioptra/decode.formats", "dioptra/decode.patterns"], apart := false, laid := [("dioptra/decode.formats", laid_dioptra_decode_formats), ("dioptra/decode.patterns", laid_dioptra_decode_patterns)], narrowed := true }
def DecodeRegistersUptoSaid : Prop := decodeRegistersUptoRow.holds Tryd.pinned (OpenSpec.upto decodeRegistersSpec)

end Rows
end Go.Proofs.YtdloaeifiohefaaDoor
