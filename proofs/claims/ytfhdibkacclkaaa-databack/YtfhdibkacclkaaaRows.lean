/-
  No cell of these rows narrows 'for every input' (looked for: loops, veiled, ifaces, maps, wideKeys, modest, calm, conditions, laid).
  DERIVED. THE GIVEN ROWS OF THIS SEAT. 5 by the template 'for every input the law returns true; each argument reads behind the call as it read before'; 0 by the template 'total and deterministic' (their statements: YtfhdibkacclkaaaTotals.lean).
  GIVEN WITH THE SEED: the statements are not yours to turn. If you find one false, say at which input.
  Laid BY PROGRAM, IN A SANDBOX (cutbox-rows.mjs): the forced cells as the released guide's own fill.sh prints them over the translation 61778b570710e285… (all of the seat's roots in one cut). By AI agents, Wed Nov 11 2026. No macro, syntax, notation, axiom, sorry.
-/
import Derived.Test.YtfhdibkacclkaaaChecked
import GoSem.Claim
import GoSem.ClaimJoined
import GoSem.ClaimMapViews
import Derived.JoinedTies
import Derived.KernelRfl
namespace Go.Proofs.Ytfhdibkacclkaaa
/- THE CELL 'sum', in the pinned program and in every row, IS THE sha256 OF THE DUMP (.gsa) THAT YtfhdibkacclkaaaProg.lean LOADS. Nothing in Lean hashes anything: it is a label: what it is worth is what the hold of that sum in a sandbox is worth. -/
noncomputable def Try.pinned : Pinned := { name := "ytfhdibkacclkaaa", sum := "61778b570710e2858884fed56751561e80ef482c02bbfd7fc6fdc292a583904d", checked := Try.checked }
namespace Rows
def none {H : Type} : Left H := { results := [], args := [] }

/-- 'wellspringlaw05.DataExpands': WHATEVER THE INPUT: true; the input reads as it did. -/
def dataExpandsSpec : ChangeSpec := { name := "dataExpands", fn := fun _ => fun
  | [d1, d2, d3] => { results := [.lit (.bool true)], args := [d1, d2, d3] }
  | _ => none }
def dataExpandsRow : OpenClaim := { program := "ytfhdibkacclkaaa", sum := "61778b570710e2858884fed56751561e80ef482c02bbfd7fc6fdc292a583904d", func := "wellspring/wellspringlaw05.DataExpands", spec := "dataExpands", inPlace := ["internal/abi.NoEscape", "internal/bytealg.MakeNoZero"], apart := false }
def DataExpandsSaid : Prop := dataExpandsRow.holds Try.pinned (OpenSpec.ofChange dataExpandsSpec)

/-- ITS FALSE NEIGHBOUR: 'it returns false'. Refute it at one input. -/
def dataExpandsWrong : ChangeSpec := { name := "dataExpands", fn := fun _ => fun
  | [d1, d2, d3] => { results := [.lit (.bool false)], args := [d1, d2, d3] }
  | _ => none }
def DataExpandsWrongFalsely : Prop := dataExpandsRow.holds Try.pinned (OpenSpec.ofChange dataExpandsWrong)

/-- 'wellspringlaw05.DataTells': WHATEVER THE INPUT: true; the input reads as it did. -/
def dataTellsSpec : ChangeSpec := { name := "dataTells", fn := fun _ => fun
  | [d1, d2] => { results := [.lit (.bool true)], args := [d1, d2] }
  | _ => none }
def dataTellsRow : OpenClaim := { program := "ytfhdibkacclkaaa", sum := "61778b570710e2858884fed56751561e80ef482c02bbfd7fc6fdc292a583904d", func := "wellspring/wellspringlaw05.DataTells", spec := "dataTells", inPlace := ["internal/abi.NoEscape", "internal/bytealg.MakeNoZero"], apart := false }
def DataTellsSaid : Prop := dataTellsRow.holds Try.pinned (OpenSpec.ofChange dataTellsSpec)

/-- ITS FALSE NEIGHBOUR: 'it returns false'. Refute it at one input. -/
def dataTellsWrong : ChangeSpec := { name := "dataTells", fn := fun _ => fun
  | [d1, d2] => { results := [.lit (.bool false)], args := [d1, d2] }
  | _ => none }
def DataTellsWrongFalsely : Prop := dataTellsRow.holds Try.pinned (OpenSpec.ofChange dataTellsWrong)

/-- 'wellspringlaw05.DataBack': WHATEVER THE INPUT: true; the input reads as it did. -/
def dataBackSpec : ChangeSpec := { name := "dataBack", fn := fun _ => fun
  | [d1, d2, d3] => { results := [.lit (.bool true)], args := [d1, d2, d3] }
  | _ => none }
def dataBackRow : OpenClaim := { program := "ytfhdibkacclkaaa", sum := "61778b570710e2858884fed56751561e80ef482c02bbfd7fc6fdc292a583904d", func := "wellspring/wellspringlaw05.DataBack", spec := "dataBack", inPlace := ["internal/abi.NoEscape", "internal/bytealg.MakeNoZero"], apart := false }
def DataBackSaid : Prop := dataBackRow.holds Try.pinned (OpenSpec.ofChange dataBackSpec)

/-- ITS FALSE NEIGHBOUR: 'it returns false'. Refute it at one input. -/
def dataBackWrong : ChangeSpec := { name := "dataBack", fn := fun _ => fun
  | [d1, d2, d3] => { results := [.lit (.bool false)], args := [d1, d2, d3] }
  | _ => none }
def DataBackWrongFalsely : Prop := dataBackRow.holds Try.pinned (OpenSpec.ofChange dataBackWrong)

/-- 'wellspringlaw05.DataPointers': WHATEVER THE INPUT: true; the input reads as it did. -/
def dataPointersSpec : ChangeSpec := { name := "dataPointers", fn := fun _ => fun
  | [d1, d2] => { results := [.lit (.bool true)], args := [d1, d2] }
  | _ => none }
def dataPointersRow : OpenClaim := { program := "ytfhdibkacclkaaa", sum := "61778b570710e2858884fed56751561e80ef482c02bbfd7fc6fdc292a583904d", func := "wellspring/wellspringlaw05.DataPointers", spec := "dataPointers", inPlace := ["internal/abi.NoEscape", "internal/bytealg.MakeNoZero"], apart := false }
def DataPointersSaid : Prop := dataPointersRow.holds Try.pinned (OpenSpec.ofChange dataPointersSpec)

/-- ITS FALSE NEIGHBOUR: 'it returns false'. Refute it at one input. -/
def dataPointersWrong : ChangeSpec := { name := "dataPointers", fn := fun _ => fun
  | [d1, d2] => { results := [.lit (.bool false)], args := [d1, d2] }
  | _ => none }
def DataPointersWrongFalsely : Prop := dataPointersRow.holds Try.pinned (OpenSpec.ofChange dataPointersWrong)

/-- 'wellspringlaw05.DataKinds': WHATEVER THE INPUT: true; the input reads as it did. -/
def dataKindsSpec : ChangeSpec := { name := "dataKinds", fn := fun _ => fun
  | [d1, d2] => { results := [.lit (.bool true)], args := [d1, d2] }
  | _ => none }
def dataKindsRow : OpenClaim := { program := "ytfhdibkacclkaaa", sum := "61778b570710e2858884fed56751561e80ef482c02bbfd7fc6fdc292a583904d", func := "wellspring/wellspringlaw05.DataKinds", spec := "dataKinds", inPlace := ["internal/abi.NoEscape", "internal/bytealg.MakeNoZero"], apart := false }
def DataKindsSaid : Prop := dataKindsRow.holds Try.pinned (OpenSpec.ofChange dataKindsSpec)

/-- ITS FALSE NEIGHBOUR: 'it returns false'. Refute it at one input. -/
def dataKindsWrong : ChangeSpec := { name := "dataKinds", fn := fun _ => fun
  | [d1, d2] => { results := [.lit (.bool false)], args := [d1, d2] }
  | _ => none }
def DataKindsWrongFalsely : Prop := dataKindsRow.holds Try.pinned (OpenSpec.ofChange dataKindsWrong)

/- THE SECOND FORM. 'bulk': how many values and letters a reading holds, each counted each time it is reached (what is shared counts as often as it is met; a slice's spare places count too). A statement '..UptoSaid' is the law's where the arguments, and the package variables that the reading takes, are together of bulk at most 1048576: NARROWER than '..Said'. Prove '..Said' where nothing that the law and all that it calls make is longer than what came in: it says more and counts as full. Else prove '..UptoSaid'. A law counts once. -/
mutual
def uptoBulk {H : Type} : DataW H → Nat
  | .lit (.string bytes) => bytes.length + 1
  | .lit _ => 1
  | .nil => 1
  | .ptr d => uptoBulk d + 1
  | .slice elems spare => uptoBulkAll elems + uptoBulkAll spare + 1
  | .agg parts => uptoBulkAll parts + 1
  | .iface _ d => uptoBulk d + 1
  | .map entries => uptoBulkEntries entries + 1
  | .held _ => 1
def uptoBulkAll {H : Type} : List (DataW H) → Nat
  | [] => 0
  | d :: r => uptoBulk d + uptoBulkAll r
def uptoBulkEntries {H : Type} : List (Lit × DataW H) → Nat
  | [] => 0
  | x :: r => uptoBulkEntry x + uptoBulkEntries r
def uptoBulkEntry {H : Type} : Lit × DataW H → Nat
  | (.string bytes, d) => bytes.length + uptoBulk d + 1
  | (_, d) => uptoBulk d + 1
 end
def uptoSmall : (H : Type) → List (DataW H) → Bool := fun _ ds => decide (uptoBulkAll ds ≤ 1048576)
def OpenSpec.upto (s : _root_.Go.ChangeSpec) : _root_.Go.OpenSpec := { _root_.Go.OpenSpec.ofChange s with cond := some uptoSmall }

/-- 'wellspringlaw05.DataExpands', WHERE WHAT IT READS IS OF BULK AT MOST 1048576: true; the input reads as it did. -/
def dataExpandsUptoRow : OpenClaim := { program := "ytfhdibkacclkaaa", sum := "61778b570710e2858884fed56751561e80ef482c02bbfd7fc6fdc292a583904d", func := "wellspring/wellspringlaw05.DataExpands", spec := "dataExpands", inPlace := ["internal/abi.NoEscape", "internal/bytealg.MakeNoZero"], apart := false, narrowed := true }
def DataExpandsUptoSaid : Prop := dataExpandsUptoRow.holds Try.pinned (OpenSpec.upto dataExpandsSpec)

/-- 'wellspringlaw05.DataTells', WHERE WHAT IT READS IS OF BULK AT MOST 1048576: true; the input reads as it did. -/
def dataTellsUptoRow : OpenClaim := { program := "ytfhdibkacclkaaa", sum := "61778b570710e2858884fed56751561e80ef482c02bbfd7fc6fdc292a583904d", func := "wellspring/wellspringlaw05.DataTells", spec := "dataTells", inPlace := ["internal/abi.NoEscape", "internal/bytealg.MakeNoZero"], apart := false, narrowed := true }
def DataTellsUptoSaid : Prop := dataTellsUptoRow.holds Try.pinned (OpenSpec.upto dataTellsSpec)

/-- 'wellspringlaw05.DataBack', WHERE WHAT IT READS IS OF BULK AT MOST 1048576: true; the input reads as it did. -/
def dataBackUptoRow : OpenClaim := { program := "ytfhdibkacclkaaa", sum := "61778b570710e2858884fed56751561e80ef482c02bbfd7fc6fdc292a583904d", func := "wellspring/wellspringlaw05.DataBack", spec := "dataBack", inPlace := ["internal/abi.NoEscape", "internal/bytealg.MakeNoZero"], apart := false, narrowed := true }
def DataBackUptoSaid : Prop := dataBackUptoRow.holds Try.pinned (OpenSpec.upto dataBackSpec)

/-- 'wellspringlaw05.DataPointers', WHERE WHAT IT READS IS OF BULK AT MOST 1048576: true; the input reads as it did. -/
def dataPointersUptoRow : OpenClaim := { program := "ytfhdibkacclkaaa", sum := "61778b570710e2858884fed56751561e80ef482c02bbfd7fc6fdc292a583904d", func := "wellspring/wellspringlaw05.DataPointers", spec := "dataPointers", inPlace := ["internal/abi.NoEscape", "internal/bytealg.MakeNoZero"], apart := false, narrowed := true }
def DataPointersUptoSaid : Prop := dataPointersUptoRow.holds Try.pinned (OpenSpec.upto dataPointersSpec)

/-- 'wellspringlaw05.DataKinds', WHERE WHAT IT READS IS OF BULK AT MOST 1048576: true; the input reads as it did. -/
def dataKindsUptoRow : OpenClaim := { program := "ytfhdibkacclkaaa", sum := "61778b570710e2858884fed56751561e80ef482c02bbfd7fc6fdc292a583904d", func := "wellspring/wellspringlaw05.DataKinds", spec := "dataKinds", inPlace := ["internal/abi.NoEscape", "internal/bytealg.MakeNoZero"], apart := false, narrowed := true }
def DataKindsUptoSaid : Prop := dataKindsUptoRow.holds Try.pinned (OpenSpec.upto dataKindsSpec)

end Rows
end Go.Proofs.Ytfhdibkacclkaaa
