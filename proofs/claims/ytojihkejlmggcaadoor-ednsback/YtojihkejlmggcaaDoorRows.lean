/-
  NARROWER THAN 'FOR EVERY INPUT', by the rows' own cells (each row's printed sentence says how): EdnsFinds: laid · EdnsTells: laid · EdnsBack: laid · EdnsLimits: laid · EdnsCodes: laid.
  DERIVED. THE GIVEN ROWS OF THIS SEAT. 5 by the template 'for every input the law returns true; each argument reads behind the call as it read before'; 0 by the template 'total and deterministic' (their statements: YtojihkejlmggcaaDoorTotals.lean).
  GIVEN WITH THE SEED: the statements are not yours to turn. If you find one false, say at which input.
  Laid BY PROGRAM, IN A SANDBOX (cutbox-rows.mjs): the forced cells as the released guide's own fill.sh prints them over the translation 43f22a126202adc3… (all of the seat's roots in one cut). By AI agents, Wed Nov 11 2026. No macro, syntax, notation, axiom, sorry.
-/
import Derived.Test.YtojihkejlmggcaaDoorChecked
import GoSem.Claim
import GoSem.ClaimJoined
import GoSem.ClaimMapViews
import Derived.JoinedTies
import Derived.KernelRfl
namespace Go.Proofs.YtojihkejlmggcaaDoor
/- THE CELL 'sum', in the pinned program and in every row, IS THE sha256 OF THE DUMP (.gsa) THAT YtojihkejlmggcaaDoorProg.lean LOADS. Nothing in Lean hashes anything: it is a label: what it is worth is what the hold of that sum in a sandbox is worth. -/
noncomputable def Tryd.pinned : Pinned := { name := "ytojihkejlmggcaadoor", sum := "43f22a126202adc3c397dcc5c413f32b0d2ae3c64ba7b82360c4fafede1d0c64", checked := Tryd.checked }
namespace Rows
def none {H : Type} : Left H := { results := [], args := [] }

/- WHAT THE LISTED PACKAGE-LEVEL VARIABLES READ AS WHEN THE CALL BEGINS. Each datum BY PROGRAM (the guide's laid-datum.mjs) off the statement by which the dump's own 'gosem.cut.vars' lays the variable. In a bare row this is a premise. The card (YtojihkejlmggcaaDoorCards.lean) ties it to the program's text. -/
def laid_wellspring_flag_places {H : Type} : DataW H := .agg [.agg [.lit (.int .i64 15), .lit (.int .i64 1)], .agg [.lit (.int .i64 11), .lit (.int .i64 15)], .agg [.lit (.int .i64 10), .lit (.int .i64 1)], .agg [.lit (.int .i64 9), .lit (.int .i64 1)], .agg [.lit (.int .i64 8), .lit (.int .i64 1)], .agg [.lit (.int .i64 7), .lit (.int .i64 1)], .agg [.lit (.int .i64 5), .lit (.int .i64 1)], .agg [.lit (.int .i64 4), .lit (.int .i64 1)], .agg [.lit (.int .i64 0), .lit (.int .i64 15)]]

/-- 'wellspringlaw09.EdnsFinds': WHATEVER THE INPUT: true; the input reads as it did. -/
def ednsFindsSpec : ChangeSpec := { name := "ednsFinds", fn := fun _ => fun
  | [d] => { results := [.lit (.bool true)], args := [d] }
  | _ => none }
def ednsFindsRow : OpenClaim := { program := "ytojihkejlmggcaadoor", sum := "43f22a126202adc3c397dcc5c413f32b0d2ae3c64ba7b82360c4fafede1d0c64", func := "wellspring/wellspringlaw09.EdnsFinds", spec := "ednsFinds", unfollowed := true, recurses := true, named := ["wellspring/flag.places"], apart := false, laid := [("wellspring/flag.places", laid_wellspring_flag_places)] }
def EdnsFindsSaid : Prop := ednsFindsRow.holds Tryd.pinned (OpenSpec.ofChange ednsFindsSpec)

/-- ITS FALSE NEIGHBOUR: 'it returns false'. Refute it at one input. -/
def ednsFindsWrong : ChangeSpec := { name := "ednsFinds", fn := fun _ => fun
  | [d] => { results := [.lit (.bool false)], args := [d] }
  | _ => none }
def EdnsFindsWrongFalsely : Prop := ednsFindsRow.holds Tryd.pinned (OpenSpec.ofChange ednsFindsWrong)

/-- 'wellspringlaw09.EdnsTells': WHATEVER THE INPUT: true; the input reads as it did. -/
def ednsTellsSpec : ChangeSpec := { name := "ednsTells", fn := fun _ => fun
  | [d1, d2] => { results := [.lit (.bool true)], args := [d1, d2] }
  | _ => none }
def ednsTellsRow : OpenClaim := { program := "ytojihkejlmggcaadoor", sum := "43f22a126202adc3c397dcc5c413f32b0d2ae3c64ba7b82360c4fafede1d0c64", func := "wellspring/wellspringlaw09.EdnsTells", spec := "ednsTells", unfollowed := true, recurses := true, named := ["wellspring/flag.places"], apart := false, laid := [("wellspring/flag.places", laid_wellspring_flag_places)] }
def EdnsTellsSaid : Prop := ednsTellsRow.holds Tryd.pinned (OpenSpec.ofChange ednsTellsSpec)

/-- ITS FALSE NEIGHBOUR: 'it returns false'. Refute it at one input. -/
def ednsTellsWrong : ChangeSpec := { name := "ednsTells", fn := fun _ => fun
  | [d1, d2] => { results := [.lit (.bool false)], args := [d1, d2] }
  | _ => none }
def EdnsTellsWrongFalsely : Prop := ednsTellsRow.holds Tryd.pinned (OpenSpec.ofChange ednsTellsWrong)

/-- 'wellspringlaw09.EdnsBack': WHATEVER THE INPUT: true; the input reads as it did. -/
def ednsBackSpec : ChangeSpec := { name := "ednsBack", fn := fun _ => fun
  | [d1, d2] => { results := [.lit (.bool true)], args := [d1, d2] }
  | _ => none }
def ednsBackRow : OpenClaim := { program := "ytojihkejlmggcaadoor", sum := "43f22a126202adc3c397dcc5c413f32b0d2ae3c64ba7b82360c4fafede1d0c64", func := "wellspring/wellspringlaw09.EdnsBack", spec := "ednsBack", unfollowed := true, recurses := true, named := ["wellspring/flag.places"], apart := false, laid := [("wellspring/flag.places", laid_wellspring_flag_places)] }
def EdnsBackSaid : Prop := ednsBackRow.holds Tryd.pinned (OpenSpec.ofChange ednsBackSpec)

/-- ITS FALSE NEIGHBOUR: 'it returns false'. Refute it at one input. -/
def ednsBackWrong : ChangeSpec := { name := "ednsBack", fn := fun _ => fun
  | [d1, d2] => { results := [.lit (.bool false)], args := [d1, d2] }
  | _ => none }
def EdnsBackWrongFalsely : Prop := ednsBackRow.holds Tryd.pinned (OpenSpec.ofChange ednsBackWrong)

/-- 'wellspringlaw09.EdnsLimits': WHATEVER THE INPUT: true; the input reads as it did. -/
def ednsLimitsSpec : ChangeSpec := { name := "ednsLimits", fn := fun _ => fun
  | [d1, d2] => { results := [.lit (.bool true)], args := [d1, d2] }
  | _ => none }
def ednsLimitsRow : OpenClaim := { program := "ytojihkejlmggcaadoor", sum := "43f22a126202adc3c397dcc5c413f32b0d2ae3c64ba7b82360c4fafede1d0c64", func := "wellspring/wellspringlaw09.EdnsLimits", spec := "ednsLimits", unfollowed := true, recurses := true, named := ["wellspring/flag.places"], apart := false, laid := [("wellspring/flag.places", laid_wellspring_flag_places)] }
def EdnsLimitsSaid : Prop := ednsLimitsRow.holds Tryd.pinned (OpenSpec.ofChange ednsLimitsSpec)

/-- ITS FALSE NEIGHBOUR: 'it returns false'. Refute it at one input. -/
def ednsLimitsWrong : ChangeSpec := { name := "ednsLimits", fn := fun _ => fun
  | [d1, d2] => { results := [.lit (.bool false)], args := [d1, d2] }
  | _ => none }
def EdnsLimitsWrongFalsely : Prop := ednsLimitsRow.holds Tryd.pinned (OpenSpec.ofChange ednsLimitsWrong)

/-- 'wellspringlaw09.EdnsCodes': WHATEVER THE INPUT: true; the input reads as it did. -/
def ednsCodesSpec : ChangeSpec := { name := "ednsCodes", fn := fun _ => fun
  | [d1, d2] => { results := [.lit (.bool true)], args := [d1, d2] }
  | _ => none }
def ednsCodesRow : OpenClaim := { program := "ytojihkejlmggcaadoor", sum := "43f22a126202adc3c397dcc5c413f32b0d2ae3c64ba7b82360c4fafede1d0c64", func := "wellspring/wellspringlaw09.EdnsCodes", spec := "ednsCodes", unfollowed := true, recurses := true, named := ["wellspring/flag.places"], apart := false, laid := [("wellspring/flag.places", laid_wellspring_flag_places)] }
def EdnsCodesSaid : Prop := ednsCodesRow.holds Tryd.pinned (OpenSpec.ofChange ednsCodesSpec)

/-- ITS FALSE NEIGHBOUR: 'it returns false'. Refute it at one input. -/
def ednsCodesWrong : ChangeSpec := { name := "ednsCodes", fn := fun _ => fun
  | [d1, d2] => { results := [.lit (.bool false)], args := [d1, d2] }
  | _ => none }
def EdnsCodesWrongFalsely : Prop := ednsCodesRow.holds Tryd.pinned (OpenSpec.ofChange ednsCodesWrong)

/- THE SECOND FORM. 'bulk': how many values and letters a reading holds, each counted each time it is reached (what is shared counts as often as it is met; a slice's spare places count too). A statement '..UptoSaid' is the law's where the arguments, and the package variables that the reading takes, are together of bulk at most 1048576: NARROWER than '..Said'. Prove '..Said' where nothing that the law and all that it calls make is longer than what came in: it says more and counts as full. Else prove '..UptoSaid'. A law counts once. -/
mutual
def uptoBulk {H : Type} : DataW H → Nat
  | .lit (.string bytes) => bytes.length + 1
  | .lit _ => 1
  | .nil => 1
  | .ptr d => uptoBulk d + 1
  | .slice elems spare => uptoBulkAll elems + uptoBulkAll spare + 1
  | .agg parts => uptoBulkAll parts + 1
  | .iface _ d => uptoBulk d + 1
  | .map entries => uptoBulkEntries entries + 1
  | .held _ => 1
def uptoBulkAll {H : Type} : List (DataW H) → Nat
  | [] => 0
  | d :: r => uptoBulk d + uptoBulkAll r
def uptoBulkEntries {H : Type} : List (Lit × DataW H) → Nat
  | [] => 0
  | x :: r => uptoBulkEntry x + uptoBulkEntries r
def uptoBulkEntry {H : Type} : Lit × DataW H → Nat
  | (.string bytes, d) => bytes.length + uptoBulk d + 1
  | (_, d) => uptoBulk d + 1
 end
def uptoSmall : (H : Type) → List (DataW H) → Bool := fun _ ds => decide (uptoBulkAll ds ≤ 1048576)
def OpenSpec.upto (s : _root_.Go.ChangeSpec) : _root_.Go.OpenSpec := { _root_.Go.OpenSpec.ofChange s with cond := some uptoSmall }

/-- 'wellspringlaw09.EdnsFinds', WHERE WHAT IT READS IS OF BULK AT MOST 1048576: true; the input reads as it did. -/
def ednsFindsUptoRow : OpenClaim := { program := "ytojihkejlmggcaadoor", sum := "43f22a126202adc3c397dcc5c413f32b0d2ae3c64ba7b82360c4fafede1d0c64", func := "wellspring/wellspringlaw09.EdnsFinds", spec := "ednsFinds", unfollowed := true, recurses := true, named := ["wellspring/flag.places"], apart := false, laid := [("wellspring/flag.places", laid_wellspring_flag_places)], narrowed := true }
def EdnsFindsUptoSaid : Prop := ednsFindsUptoRow.holds Tryd.pinned (OpenSpec.upto ednsFindsSpec)

/-- 'wellspringlaw09.EdnsTells', WHERE WHAT IT READS IS OF BULK AT MOST 1048576: true; the input reads as it did. -/
def ednsTellsUptoRow : OpenClaim := { program := "ytojihkejlmggcaadoor", sum := "43f22a126202adc3c397dcc5c413f32b0d2ae3c64ba7b82360c4fafede1d0c64", func := "wellspring/wellspringlaw09.EdnsTells", spec := "ednsTells", unfollowed := true, recurses := true, named := ["wellspring/flag.places"], apart := false, laid := [("wellspring/flag.places", laid_wellspring_flag_places)], narrowed := true }
def EdnsTellsUptoSaid : Prop := ednsTellsUptoRow.holds Tryd.pinned (OpenSpec.upto ednsTellsSpec)

/-- 'wellspringlaw09.EdnsBack', WHERE WHAT IT READS IS OF BULK AT MOST 1048576: true; the input reads as it did. -/
def ednsBackUptoRow : OpenClaim := { program := "ytojihkejlmggcaadoor", sum := "43f22a126202adc3c397dcc5c413f32b0d2ae3c64ba7b82360c4fafede1d0c64", func := "wellspring/wellspringlaw09.EdnsBack", spec := "ednsBack", unfollowed := true, recurses := true, named := ["wellspring/flag.places"], apart := false, laid := [("wellspring/flag.places", laid_wellspring_flag_places)], narrowed := true }
def EdnsBackUptoSaid : Prop := ednsBackUptoRow.holds Tryd.pinned (OpenSpec.upto ednsBackSpec)

/-- 'wellspringlaw09.EdnsLimits', WHERE WHAT IT READS IS OF BULK AT MOST 1048576: true; the input reads as it did. -/
def ednsLimitsUptoRow : OpenClaim := { program := "ytojihkejlmggcaadoor", sum := "43f22a126202adc3c397dcc5c413f32b0d2ae3c64ba7b82360c4fafede1d0c64", func := "wellspring/wellspringlaw09.EdnsLimits", spec := "ednsLimits", unfollowed := true, recurses := true, named := ["wellspring/flag.places"], apart := false, laid := [("wellspring/flag.places", laid_wellspring_flag_places)], narrowed := true }
def EdnsLimitsUptoSaid : Prop := ednsLimitsUptoRow.holds Tryd.pinned (OpenSpec.upto ednsLimitsSpec)

/-- 'wellspringlaw09.EdnsCodes', WHERE WHAT IT READS IS OF BULK AT MOST 1048576: true; the input reads as it did. -/
def ednsCodesUptoRow : OpenClaim := { program := "ytojihkejlmggcaadoor", sum := "43f22a126202adc3c397dcc5c413f32b0d2ae3c64ba7b82360c4fafede1d0c64", func := "wellspring/wellspringlaw09.EdnsCodes", spec := "ednsCodes", unfollowed := true, recurses := true, named := ["wellspring/flag.places"], apart := false, laid := [("wellspring/flag.places", laid_wellspring_flag_places)], narrowed := true }
def EdnsCodesUptoSaid : Prop := ednsCodesUptoRow.holds Tryd.pinned (OpenSpec.upto ednsCodesSpec)

end Rows
end Go.Proofs.YtojihkejlmggcaaDoor
