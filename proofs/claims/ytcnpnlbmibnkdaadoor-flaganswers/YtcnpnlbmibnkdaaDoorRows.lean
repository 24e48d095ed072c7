/-
  NARROWER THAN 'FOR EVERY INPUT', by the rows' own cells (each row's printed sentence says how): FlagTells: laid · FlagApart: laid · FlagAnswers: laid · FlagCodes: laid · FlagTwice: laid.
  DERIVED. THE GIVEN ROWS OF THIS SEAT. 5 by the template 'for every input the law returns true; each argument reads behind the call as it read before'; 0 by the template 'total and deterministic' (their statements: YtcnpnlbmibnkdaaDoorTotals.lean).
  GIVEN WITH THE SEED: the statements are not yours to turn. If you find one false, say at which input.
  Laid BY PROGRAM, IN A SANDBOX (cutbox-rows.mjs): the forced cells as the released guide's own fill.sh prints them over the translation ff9c933f2af4f7cb… (all of the seat's roots in one cut). By AI agents, Wed Nov 11 2026. No macro, syntax, notation, axiom, sorry.
-/
import Derived.Test.YtcnpnlbmibnkdaaDoorChecked
import GoSem.Claim
import GoSem.ClaimJoined
import GoSem.ClaimMapViews
import Derived.JoinedTies
import Derived.KernelRfl
namespace Go.Proofs.YtcnpnlbmibnkdaaDoor
/- THE CELL 'sum', in the pinned program and in every row, IS THE sha256 OF THE DUMP (.gsa) THAT YtcnpnlbmibnkdaaDoorProg.lean LOADS. Nothing in Lean hashes anything: it is a label: what it is worth is what the hold of that sum in a sandbox is worth. -/
noncomputable def Tryd.pinned : Pinned := { name := "ytcnpnlbmibnkdaadoor", sum := "ff9c933f2af4f7cb0d5f2776d216c3e5a51031904845d81e4b9a49ffa7120394", checked := Tryd.checked }
namespace Rows
def none {H : Type} : Left H := { results := [], args := [] }

/- WHAT THE LISTED PACKAGE-LEVEL VARIABLES READ AS WHEN THE CALL BEGINS. Each datum BY PROGRAM (the guide's laid-datum.mjs) off the statement by which the dump's own 'gosem.cut.vars' lays the variable. In a bare row this is a premise. The card (YtcnpnlbmibnkdaaDoorCards.lean) ties it to the program's text. -/
def laid_wellspring_flag_places {H : Type} : DataW H := .agg [.agg [.lit (.int .i64 15), .lit (.int .i64 1)], .agg [.lit (.int .i64 11), .lit (.int .i64 15)], .agg [.lit (.int .i64 10), .lit (.int .i64 1)], .agg [.lit (.int .i64 9), .lit (.int .i64 1)], .agg [.lit (.int .i64 8), .lit (.int .i64 1)], .agg [.lit (.int .i64 7), .lit (.int .i64 1)], .agg [.lit (.int .i64 5), .lit (.int .i64 1)], .agg [.lit (.int .i64 4), .lit (.int .i64 1)], .agg [.lit (.int .i64 0), .lit (.int .i64 15)]]

/-- 'wellspringlaw07.FlagTells': WHATEVER THE INPUT: true; the input reads as it did. -/
def flagTellsSpec : ChangeSpec := { name := "flagTells", fn := fun _ => fun
  | [d1, d2, d3] => { results := [.lit (.bool true)], args := [d1, d2, d3] }
  | _ => none }
def flagTellsRow : OpenClaim := { program := "ytcnpnlbmibnkdaadoor", sum := "ff9c933f2af4f7cb0d5f2776d216c3e5a51031904845d81e4b9a49ffa7120394", func := "wellspring/wellspringlaw07.FlagTells", spec := "flagTells", unfollowed := true, recurses := true, named := ["wellspring/flag.places"], apart := false, laid := [("wellspring/flag.places", laid_wellspring_flag_places)] }
def FlagTellsSaid : Prop := flagTellsRow.holds Tryd.pinned (OpenSpec.ofChange flagTellsSpec)

/-- ITS FALSE NEIGHBOUR: 'it returns false'. Refute it at one input. -/
def flagTellsWrong : ChangeSpec := { name := "flagTells", fn := fun _ => fun
  | [d1, d2, d3] => { results := [.lit (.bool false)], args := [d1, d2, d3] }
  | _ => none }
def FlagTellsWrongFalsely : Prop := flagTellsRow.holds Tryd.pinned (OpenSpec.ofChange flagTellsWrong)

/-- 'wellspringlaw07.FlagApart': WHATEVER THE INPUT: true; the input reads as it did. -/
def flagApartSpec : ChangeSpec := { name := "flagApart", fn := fun _ => fun
  | [d1, d2, d3] => { results := [.lit (.bool true)], args := [d1, d2, d3] }
  | _ => none }
def flagApartRow : OpenClaim := { program := "ytcnpnlbmibnkdaadoor", sum := "ff9c933f2af4f7cb0d5f2776d216c3e5a51031904845d81e4b9a49ffa7120394", func := "wellspring/wellspringlaw07.FlagApart", spec := "flagApart", unfollowed := true, recurses := true, named := ["wellspring/flag.places"], apart := false, laid := [("wellspring/flag.places", laid_wellspring_flag_places)] }
def FlagApartSaid : Prop := flagApartRow.holds Tryd.pinned (OpenSpec.ofChange flagApartSpec)

/-- ITS FALSE NEIGHBOUR: 'it returns false'. Refute it at one input. -/
def flagApartWrong : ChangeSpec := { name := "flagApart", fn := fun _ => fun
  | [d1, d2, d3] => { results := [.lit (.bool false)], args := [d1, d2, d3] }
  | _ => none }
def FlagApartWrongFalsely : Prop := flagApartRow.holds Tryd.pinned (OpenSpec.ofChange flagApartWrong)

/-- 'wellspringlaw07.FlagAnswers': WHATEVER THE INPUT: true; the input reads as it did. -/
def flagAnswersSpec : ChangeSpec := { name := "flagAnswers", fn := fun _ => fun
  | [d1, d2] => { results := [.lit (.bool true)], args := [d1, d2] }
  | _ => none }
def flagAnswersRow : OpenClaim := { program := "ytcnpnlbmibnkdaadoor", sum := "ff9c933f2af4f7cb0d5f2776d216c3e5a51031904845d81e4b9a49ffa7120394", func := "wellspring/wellspringlaw07.FlagAnswers", spec := "flagAnswers", unfollowed := true, recurses := true, named := ["wellspring/flag.places"], apart := false, laid := [("wellspring/flag.places", laid_wellspring_flag_places)] }
def FlagAnswersSaid : Prop := flagAnswersRow.holds Tryd.pinned (OpenSpec.ofChange flagAnswersSpec)

/-- ITS FALSE NEIGHBOUR: 'it returns false'. Refute it at one input. -/
def flagAnswersWrong : ChangeSpec := { name := "flagAnswers", fn := fun _ => fun
  | [d1, d2] => { results := [.lit (.bool false)], args := [d1, d2] }
  | _ => none }
def FlagAnswersWrongFalsely : Prop := flagAnswersRow.holds Tryd.pinned (OpenSpec.ofChange flagAnswersWrong)

/-- 'wellspringlaw07.FlagCodes': WHATEVER THE INPUT: true; the input reads as it did. -/
def flagCodesSpec : ChangeSpec := { name := "flagCodes", fn := fun _ => fun
  | [d1, d2, d3] => { results := [.lit (.bool true)], args := [d1, d2, d3] }
  | _ => none }
def flagCodesRow : OpenClaim := { program := "ytcnpnlbmibnkdaadoor", sum := "ff9c933f2af4f7cb0d5f2776d216c3e5a51031904845d81e4b9a49ffa7120394", func := "wellspring/wellspringlaw07.FlagCodes", spec := "flagCodes", unfollowed := true, recurses := true, named := ["wellspring/flag.places"], apart := false, laid := [("wellspring/flag.places", laid_wellspring_flag_places)] }
def FlagCodesSaid : Prop := flagCodesRow.holds Tryd.pinned (OpenSpec.ofChange flagCodesSpec)

/-- ITS FALSE NEIGHBOUR: 'it returns false'. Refute it at one input. -/
def flagCodesWrong : ChangeSpec := { name := "flagCodes", fn := fun _ => fun
  | [d1, d2, d3] => { results := [.lit (.bool false)], args := [d1, d2, d3] }
  | _ => none }
def FlagCodesWrongFalsely : Prop := flagCodesRow.holds Tryd.pinned (OpenSpec.ofChange flagCodesWrong)

/-- 'wellspringlaw07.FlagTwice': WHATEVER THE INPUT: true; the input reads as it did. -/
def flagTwiceSpec : ChangeSpec := { name := "flagTwice", fn := fun _ => fun
  | [d1, d2, d3] => { results := [.lit (.bool true)], args := [d1, d2, d3] }
  | _ => none }
def flagTwiceRow : OpenClaim := { program := "ytcnpnlbmibnkdaadoor", sum := "ff9c933f2af4f7cb0d5f2776d216c3e5a51031904845d81e4b9a49ffa7120394", func := "wellspring/wellspringlaw07.FlagTwice", spec := "flagTwice", unfollowed := true, recurses := true, named := ["wellspring/flag.places"], apart := false, laid := [("wellspring/flag.places", laid_wellspring_flag_places)] }
def FlagTwiceSaid : Prop := flagTwiceRow.holds Tryd.pinned (OpenSpec.ofChange flagTwiceSpec)

/-- ITS FALSE NEIGHBOUR: 'it returns false'. Refute it at one input. -/
def flagTwiceWrong : ChangeSpec := { name := "flagTwice", fn := fun _ => fun
  | [d1, d2, d3] => { results := [.lit (.bool false)], args := [d1, d2, d3] }
  | _ => none }
def FlagTwiceWrongFalsely : Prop := flagTwiceRow.holds Tryd.pinned (OpenSpec.ofChange flagTwiceWrong)

/- THE SECOND FORM. 'bulk': how many values and letters a reading holds, each counted each time it is reached (what is shared counts as often as it is met; a slice's spare places count too). A statement '..UptoSaid' is the law's where the arguments, and the package variables that the reading takes, are together of bulk at most 1048576: NARROWER than '..Said'. Prove '..Said' where nothing that the law and all that it calls make is longer than what came in: it says more and counts as full. Else prove '..UptoSaid'. A law counts once. -/
mutual
def uptoBulk {H : Type} : DataW H → Nat
  | .lit (.string bytes) => bytes.length + 1
  | .lit _ => 1
  | .nil => 1
  | .ptr d => uptoBulk d + 1
  | .slice elems spare => uptoBulkAll elems + uptoBulkAll spare + 1
  | .agg parts => uptoBulkAll parts + 1
  | .iface _ d => uptoBulk d + 1
  | .map entries => uptoBulkEntries entries + 1
  | .held _ => 1
def uptoBulkAll {H : Type} : List (DataW H) → Nat
  | [] => 0
  | d :: r => uptoBulk d + uptoBulkAll r
def uptoBulkEntries {H : Type} : List (Lit × DataW H) → Nat
  | [] => 0
  | x :: r => uptoBulkEntry x + uptoBulkEntries r
def uptoBulkEntry {H : Type} : Lit × DataW H → Nat
  | (.string bytes, d) => bytes.length + uptoBulk d + 1
  | (_, d) => uptoBulk d + 1
 end
def uptoSmall : (H : Type) → List (DataW H) → Bool := fun _ ds => decide (uptoBulkAll ds ≤ 1048576)
def OpenSpec.upto (s : _root_.Go.ChangeSpec) : _root_.Go.OpenSpec := { _root_.Go.OpenSpec.ofChange s with cond := some uptoSmall }

/-- 'wellspringlaw07.FlagTells', WHERE WHAT IT READS IS OF BULK AT MOST 1048576: true; the input reads as it did. -/
def flagTellsUptoRow : OpenClaim := { program := "ytcnpnlbmibnkdaadoor", sum := "ff9c933f2af4f7cb0d5f2776d216c3e5a51031904845d81e4b9a49ffa7120394", func := "wellspring/wellspringlaw07.FlagTells", spec := "flagTells", unfollowed := true, recurses := true, named := ["wellspring/flag.places"], apart := false, laid := [("wellspring/flag.places", laid_wellspring_flag_places)], narrowed := true }
def FlagTellsUptoSaid : Prop := flagTellsUptoRow.holds Tryd.pinned (OpenSpec.upto flagTellsSpec)

/-- 'wellspringlaw07.FlagApart', WHERE WHAT IT READS IS OF BULK AT MOST 1048576: true; the input reads as it did. -/
def flagApartUptoRow : OpenClaim := { program := "ytcnpnlbmibnkdaadoor", sum := "ff9c933f2af4f7cb0d5f2776d216c3e5a51031904845d81e4b9a49ffa7120394", func := "wellspring/wellspringlaw07.FlagApart", spec := "flagApart", unfollowed := true, recurses := true, named := ["wellspring/flag.places"], apart := false, laid := [("wellspring/flag.places", laid_wellspring_flag_places)], narrowed := true }
def FlagApartUptoSaid : Prop := flagApartUptoRow.holds Tryd.pinned (OpenSpec.upto flagApartSpec)

/-- 'wellspringlaw07.FlagAnswers', WHERE WHAT IT READS IS OF BULK AT MOST 1048576: true; the input reads as it did. -/
def flagAnswersUptoRow : OpenClaim := { program := "ytcnpnlbmibnkdaadoor", sum := "ff9c933f2af4f7cb0d5f2776d216c3e5a51031904845d81e4b9a49ffa7120394", func := "wellspring/wellspringlaw07.FlagAnswers", spec := "flagAnswers", unfollowed := true, recurses := true, named := ["wellspring/flag.places"], apart := false, laid := [("wellspring/flag.places", laid_wellspring_flag_places)], narrowed := true }
def FlagAnswersUptoSaid : Prop := flagAnswersUptoRow.holds Tryd.pinned (OpenSpec.upto flagAnswersSpec)

/-- 'wellspringlaw07.FlagCodes', WHERE WHAT IT READS IS OF BULK AT MOST 1048576: true; the input reads as it did. -/
def flagCodesUptoRow : OpenClaim := { program := "ytcnpnlbmibnkdaadoor", sum := "ff9c933f2af4f7cb0d5f2776d216c3e5a51031904845d81e4b9a49ffa7120394", func := "wellspring/wellspringlaw07.FlagCodes", spec := "flagCodes", unfollowed := true, recurses := true, named := ["wellspring/flag.places"], apart := false, laid := [("wellspring/flag.places", laid_wellspring_flag_places)], narrowed := true }
def FlagCodesUptoSaid : Prop := flagCodesUptoRow.holds Tryd.pinned (OpenSpec.upto flagCodesSpec)

/-- 'wellspringlaw07.FlagTwice', WHERE WHAT IT READS IS OF BULK AT MOST 1048576: true; the input reads as it did. -/
def flagTwiceUptoRow : OpenClaim := { program := "ytcnpnlbmibnkdaadoor", sum := "ff9c933f2af4f7cb0d5f2776d216c3e5a51031904845d81e4b9a49ffa7120394", func := "wellspring/wellspringlaw07.FlagTwice", spec := "flagTwice", unfollowed := true, recurses := true, named := ["wellspring/flag.places"], apart := false, laid := [("wellspring/flag.places", laid_wellspring_flag_places)], narrowed := true }
def FlagTwiceUptoSaid : Prop := flagTwiceUptoRow.holds Tryd.pinned (OpenSpec.upto flagTwiceSpec)

end Rows
end Go.Proofs.YtcnpnlbmibnkdaaDoor
