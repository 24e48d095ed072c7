/-
  No cell of these rows narrows 'for every input' (looked for: loops, veiled, ifaces, maps, wideKeys, modest, calm, conditions, laid).
  DERIVED. THE GIVEN ROWS OF THIS SEAT. 7 by the template 'for every input the law returns true; each argument reads behind the call as it read before'; 0 by the template 'total and deterministic' (their statements: YtedelldhkjkghaaTotals.lean).
  GIVEN WITH THE SEED: the statements are not yours to turn. If you find one false, say at which input.
  Laid BY PROGRAM, IN A SANDBOX (cutbox-rows.mjs): the forced cells as the released guide's own fill.sh prints them over the translation 7c8589873540530a… (all of the seat's roots in one cut). By AI agents, Wed Nov 11 2026. No macro, syntax, notation, axiom, sorry.
-/
import Derived.Test.YtedelldhkjkghaaChecked
import GoSem.Claim
import GoSem.ClaimJoined
import GoSem.ClaimMapViews
import Derived.JoinedTies
import Derived.KernelRfl
namespace Go.Proofs.Ytedelldhkjkghaa
/- THE CELL 'sum', in the pinned program and in every row, IS THE sha256 OF THE DUMP (.gsa) THAT YtedelldhkjkghaaProg.lean LOADS. Nothing in Lean hashes anything: it is a label: what it is worth is what the hold of that sum in a sandbox is worth. -/
noncomputable def Try.pinned : Pinned := { name := "ytedelldhkjkghaa", sum := "7c8589873540530a8534abe605e6120be95b5ffb5f41057b2ff87c5b40c356a2", checked := Try.checked }
namespace Rows
def none {H : Type} : Left H := { results := [], args := [] }

/-- 'wellspringlaw02.NameTells': WHATEVER THE INPUT: true; the input reads as it did. -/
def nameTellsSpec : ChangeSpec := { name := "nameTells", fn := fun _ => fun
  | [d1, d2] => { results := [.lit (.bool true)], args := [d1, d2] }
  | _ => none }
def nameTellsRow : OpenClaim := { program := "ytedelldhkjkghaa", sum := "7c8589873540530a8534abe605e6120be95b5ffb5f41057b2ff87c5b40c356a2", func := "wellspring/wellspringlaw02.NameTells", spec := "nameTells", apart := false }
def NameTellsSaid : Prop := nameTellsRow.holds Try.pinned (OpenSpec.ofChange nameTellsSpec)

/-- ITS FALSE NEIGHBOUR: 'it returns false'. Refute it at one input. -/
def nameTellsWrong : ChangeSpec := { name := "nameTells", fn := fun _ => fun
  | [d1, d2] => { results := [.lit (.bool false)], args := [d1, d2] }
  | _ => none }
def NameTellsWrongFalsely : Prop := nameTellsRow.holds Try.pinned (OpenSpec.ofChange nameTellsWrong)

/-- 'wellspringlaw02.NameJoins': WHATEVER THE INPUT: true; the input reads as it did. -/
def nameJoinsSpec : ChangeSpec := { name := "nameJoins", fn := fun _ => fun
  | [d] => { results := [.lit (.bool true)], args := [d] }
  | _ => none }
def nameJoinsRow : OpenClaim := { program := "ytedelldhkjkghaa", sum := "7c8589873540530a8534abe605e6120be95b5ffb5f41057b2ff87c5b40c356a2", func := "wellspring/wellspringlaw02.NameJoins", spec := "nameJoins", apart := false }
def NameJoinsSaid : Prop := nameJoinsRow.holds Try.pinned (OpenSpec.ofChange nameJoinsSpec)

/-- ITS FALSE NEIGHBOUR: 'it returns false'. Refute it at one input. -/
def nameJoinsWrong : ChangeSpec := { name := "nameJoins", fn := fun _ => fun
  | [d] => { results := [.lit (.bool false)], args := [d] }
  | _ => none }
def NameJoinsWrongFalsely : Prop := nameJoinsRow.holds Try.pinned (OpenSpec.ofChange nameJoinsWrong)

/-- 'wellspringlaw02.NameTexts': WHATEVER THE INPUT: true; the input reads as it did. -/
def nameTextsSpec : ChangeSpec := { name := "nameTexts", fn := fun _ => fun
  | [d1, d2] => { results := [.lit (.bool true)], args := [d1, d2] }
  | _ => none }
def nameTextsRow : OpenClaim := { program := "ytedelldhkjkghaa", sum := "7c8589873540530a8534abe605e6120be95b5ffb5f41057b2ff87c5b40c356a2", func := "wellspring/wellspringlaw02.NameTexts", spec := "nameTexts", apart := false }
def NameTextsSaid : Prop := nameTextsRow.holds Try.pinned (OpenSpec.ofChange nameTextsSpec)

/-- ITS FALSE NEIGHBOUR: 'it returns false'. Refute it at one input. -/
def nameTextsWrong : ChangeSpec := { name := "nameTexts", fn := fun _ => fun
  | [d1, d2] => { results := [.lit (.bool false)], args := [d1, d2] }
  | _ => none }
def NameTextsWrongFalsely : Prop := nameTextsRow.holds Try.pinned (OpenSpec.ofChange nameTextsWrong)

/-- 'wellspringlaw02.NameBack': WHATEVER THE INPUT: true; the input reads as it did. -/
def nameBackSpec : ChangeSpec := { name := "nameBack", fn := fun _ => fun
  | [d] => { results := [.lit (.bool true)], args := [d] }
  | _ => none }
def nameBackRow : OpenClaim := { program := "ytedelldhkjkghaa", sum := "7c8589873540530a8534abe605e6120be95b5ffb5f41057b2ff87c5b40c356a2", func := "wellspring/wellspringlaw02.NameBack", spec := "nameBack", apart := false }
def NameBackSaid : Prop := nameBackRow.holds Try.pinned (OpenSpec.ofChange nameBackSpec)

/-- ITS FALSE NEIGHBOUR: 'it returns false'. Refute it at one input. -/
def nameBackWrong : ChangeSpec := { name := "nameBack", fn := fun _ => fun
  | [d] => { results := [.lit (.bool false)], args := [d] }
  | _ => none }
def NameBackWrongFalsely : Prop := nameBackRow.holds Try.pinned (OpenSpec.ofChange nameBackWrong)

/-- 'wellspringlaw02.NameLies': WHATEVER THE INPUT: true; the input reads as it did. -/
def nameLiesSpec : ChangeSpec := { name := "nameLies", fn := fun _ => fun
  | [d1, d2, d3] => { results := [.lit (.bool true)], args := [d1, d2, d3] }
  | _ => none }
def nameLiesRow : OpenClaim := { program := "ytedelldhkjkghaa", sum := "7c8589873540530a8534abe605e6120be95b5ffb5f41057b2ff87c5b40c356a2", func := "wellspring/wellspringlaw02.NameLies", spec := "nameLies", apart := false }
def NameLiesSaid : Prop := nameLiesRow.holds Try.pinned (OpenSpec.ofChange nameLiesSpec)

/-- ITS FALSE NEIGHBOUR: 'it returns false'. Refute it at one input. -/
def nameLiesWrong : ChangeSpec := { name := "nameLies", fn := fun _ => fun
  | [d1, d2, d3] => { results := [.lit (.bool false)], args := [d1, d2, d3] }
  | _ => none }
def NameLiesWrongFalsely : Prop := nameLiesRow.holds Try.pinned (OpenSpec.ofChange nameLiesWrong)

/-- 'wellspringlaw02.NameUps': WHATEVER THE INPUT: true; the input reads as it did. -/
def nameUpsSpec : ChangeSpec := { name := "nameUps", fn := fun _ => fun
  | [d] => { results := [.lit (.bool true)], args := [d] }
  | _ => none }
def nameUpsRow : OpenClaim := { program := "ytedelldhkjkghaa", sum := "7c8589873540530a8534abe605e6120be95b5ffb5f41057b2ff87c5b40c356a2", func := "wellspring/wellspringlaw02.NameUps", spec := "nameUps", apart := false }
def NameUpsSaid : Prop := nameUpsRow.holds Try.pinned (OpenSpec.ofChange nameUpsSpec)

/-- ITS FALSE NEIGHBOUR: 'it returns false'. Refute it at one input. -/
def nameUpsWrong : ChangeSpec := { name := "nameUps", fn := fun _ => fun
  | [d] => { results := [.lit (.bool false)], args := [d] }
  | _ => none }
def NameUpsWrongFalsely : Prop := nameUpsRow.holds Try.pinned (OpenSpec.ofChange nameUpsWrong)

/-- 'wellspringlaw02.NameSame': WHATEVER THE INPUT: true; the input reads as it did. -/
def nameSameSpec : ChangeSpec := { name := "nameSame", fn := fun _ => fun
  | [d1, d2, d3] => { results := [.lit (.bool true)], args := [d1, d2, d3] }
  | _ => none }
def nameSameRow : OpenClaim := { program := "ytedelldhkjkghaa", sum := "7c8589873540530a8534abe605e6120be95b5ffb5f41057b2ff87c5b40c356a2", func := "wellspring/wellspringlaw02.NameSame", spec := "nameSame", apart := false }
def NameSameSaid : Prop := nameSameRow.holds Try.pinned (OpenSpec.ofChange nameSameSpec)

/-- ITS FALSE NEIGHBOUR: 'it returns false'. Refute it at one input. -/
def nameSameWrong : ChangeSpec := { name := "nameSame", fn := fun _ => fun
  | [d1, d2, d3] => { results := [.lit (.bool false)], args := [d1, d2, d3] }
  | _ => none }
def NameSameWrongFalsely : Prop := nameSameRow.holds Try.pinned (OpenSpec.ofChange nameSameWrong)

/- THE SECOND FORM. 'bulk': how many values and letters a reading holds, each counted each time it is reached (what is shared counts as often as it is met; a slice's spare places count too). A statement '..UptoSaid' is the law's where the arguments, and the package variables that the reading takes, are together of bulk at most 1048576: NARROWER than '..Said'. Prove '..Said' where nothing that the law and all that it calls make is longer than what came in: it says more and counts as full. Else prove '..UptoSaid'. A law counts once. -/
mutual
def uptoBulk {H : Type} : DataW H → Nat
  | .lit (.string bytes) => bytes.length + 1
  | .lit _ => 1
  | .nil => 1
  | .ptr d => uptoBulk d + 1
  | .slice elems spare => uptoBulkAll elems + uptoBulkAll spare + 1
  | .agg parts => uptoBulkAll parts + 1
  | .iface _ d => uptoBulk d + 1
  | .map entries => uptoBulkEntries entries + 1
  | .held _ => 1
def uptoBulkAll {H : Type} : List (DataW H) → Nat
  | [] => 0
  | d :: r => uptoBulk d + uptoBulkAll r
def uptoBulkEntries {H : Type} : List (Lit × DataW H) → Nat
  | [] => 0
  | x :: r => uptoBulkEntry x + uptoBulkEntries r
def uptoBulkEntry {H : Type} : Lit × DataW H → Nat
  | (.string bytes, d) => bytes.length + uptoBulk d + 1
  | (_, d) => uptoBulk d + 1
 end
def uptoSmall : (H : Type) → List (DataW H) → Bool := fun _ ds => decide (uptoBulkAll ds ≤ 1048576)
def OpenSpec.upto (s : _root_.Go.ChangeSpec) : _root_.Go.OpenSpec := { _root_.Go.OpenSpec.ofChange s with cond := some uptoSmall }

/-- 'wellspringlaw02.NameTells', WHERE WHAT IT READS IS OF BULK AT MOST 1048576: true; the input reads as it did. -/
def nameTellsUptoRow : OpenClaim := { program := "ytedelldhkjkghaa", sum := "7c8589873540530a8534abe605e6120be95b5ffb5f41057b2ff87c5b40c356a2", func := "wellspring/wellspringlaw02.NameTells", spec := "nameTells", apart := false, narrowed := true }
def NameTellsUptoSaid : Prop := nameTellsUptoRow.holds Try.pinned (OpenSpec.upto nameTellsSpec)

/-- 'wellspringlaw02.NameJoins', WHERE WHAT IT READS IS OF BULK AT MOST 1048576: true; the input reads as it did. -/
def nameJoinsUptoRow : OpenClaim := { program := "ytedelldhkjkghaa", sum := "7c8589873540530a8534abe605e6120be95b5ffb5f41057b2ff87c5b40c356a2", func := "wellspring/wellspringlaw02.NameJoins", spec := "nameJoins", apart := false, narrowed := true }
def NameJoinsUptoSaid : Prop := nameJoinsUptoRow.holds Try.pinned (OpenSpec.upto nameJoinsSpec)

/-- 'wellspringlaw02.NameTexts', WHERE WHAT IT READS IS OF BULK AT MOST 1048576: true; the input reads as it did. -/
def nameTextsUptoRow : OpenClaim := { program := "ytedelldhkjkghaa", sum := "7c8589873540530a8534abe605e6120be95b5ffb5f41057b2ff87c5b40c356a2", func := "wellspring/wellspringlaw02.NameTexts", spec := "nameTexts", apart := false, narrowed := true }
def NameTextsUptoSaid : Prop := nameTextsUptoRow.holds Try.pinned (OpenSpec.upto nameTextsSpec)

/-- 'wellspringlaw02.NameBack', WHERE WHAT IT READS IS OF BULK AT MOST 1048576: true; the input reads as it did. -/
def nameBackUptoRow : OpenClaim := { program := "ytedelldhkjkghaa", sum := "7c8589873540530a8534abe605e6120be95b5ffb5f41057b2ff87c5b40c356a2", func := "wellspring/wellspringlaw02.NameBack", spec := "nameBack", apart := false, narrowed := true }
def NameBackUptoSaid : Prop := nameBackUptoRow.holds Try.pinned (OpenSpec.upto nameBackSpec)

/-- 'wellspringlaw02.NameLies', WHERE WHAT IT READS IS OF BULK AT MOST 1048576: true; the input reads as it did. -/
def nameLiesUptoRow : OpenClaim := { program := "ytedelldhkjkghaa", sum := "7c8589873540530a8534abe605e6120be95b5ffb5f41057b2ff87c5b40c356a2", func := "wellspring/wellspringlaw02.NameLies", spec := "nameLies", apart := false, narrowed := true }
def NameLiesUptoSaid : Prop := nameLiesUptoRow.holds Try.pinned (OpenSpec.upto nameLiesSpec)

/-- 'wellspringlaw02.NameUps', WHERE WHAT IT READS IS OF BULK AT MOST 1048576: true; the input reads as it did. -/
def nameUpsUptoRow : OpenClaim := { program := "ytedelldhkjkghaa", sum := "7c8589873540530a8534abe605e6120be95b5ffb5f41057b2ff87c5b40c356a2", func := "wellspring/wellspringlaw02.NameUps", spec := "nameUps", apart := false, narrowed := true }
def NameUpsUptoSaid : Prop := nameUpsUptoRow.holds Try.pinned (OpenSpec.upto nameUpsSpec)

/-- 'wellspringlaw02.NameSame', WHERE WHAT IT READS IS OF BULK AT MOST 1048576: true; the input reads as it did. -/
def nameSameUptoRow : OpenClaim := { program := "ytedelldhkjkghaa", sum := "7c8589873540530a8534abe605e6120be95b5ffb5f41057b2ff87c5b40c356a2", func := "wellspring/wellspringlaw02.NameSame", spec := "nameSame", apart := false, narrowed := true }
def NameSameUptoSaid : Prop := nameSameUptoRow.holds Try.pinned (OpenSpec.upto nameSameSpec)

end Rows
end Go.Proofs.Ytedelldhkjkghaa
