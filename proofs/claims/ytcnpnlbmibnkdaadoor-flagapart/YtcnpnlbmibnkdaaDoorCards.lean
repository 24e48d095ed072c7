/-
  DERIVED. GIVEN WITH THE SEED: THE CARDS: each row of YtcnpnlbmibnkdaaDoorRows.lean that lists a variable, with what it lists TIED to the program's text (the seventh form; the later family's looks); each row that meets fmt, with fmt's text TOLD by the authors' own Lean function (tested against real Go, not proved from fmt's source: count such statements apart). THE CARD IS WHAT COUNTS. Prove the row's statement (the work); the ties are given (YtcnpnlbmibnkdaaDoorTie.lean); close each card by the builder's one call (the guide's Derived/Test/ToyasCard.lean, 'card_holds'). Laid BY PROGRAM, IN A SANDBOX (cutbox-door.mjs). By AI agents, Wed Nov 11 2026. No macro, syntax, notation, axiom, sorry.
-/
import Derived.Test.YtcnpnlbmibnkdaaDoorRows
import GoSem.ClaimSeven
namespace Go.Proofs.YtcnpnlbmibnkdaaDoor
namespace Rows

/-- THE TIED CARD OF 'wellspringlaw07.FlagTells'. -/
def flagTellsCard : Claim7 := { stood := { row := flagTellsRow, standIns := [], harness := (true, "399576f64253eff579705caa6b491c0f6b304393c538e1b041147b0297a7022d"), looks := false }, kinds := [], alts := [], laidByText := true, laidKinds := [.data], laidTests := true, laidLooks := .later }
def FlagTellsCardSaid : Prop := Claim7.holds Tryd.pinned (.plain (OpenSpec.ofChange flagTellsSpec)) flagTellsCard

/-- THE TIED CARD OF 'wellspringlaw07.FlagApart'. -/
def flagApartCard : Claim7 := { stood := { row := flagApartRow, standIns := [], harness := (true, "399576f64253eff579705caa6b491c0f6b304393c538e1b041147b0297a7022d"), looks := false }, kinds := [], alts := [], laidByText := true, laidKinds := [.data], laidTests := true, laidLooks := .later }
def FlagApartCardSaid : Prop := Claim7.holds Tryd.pinned (.plain (OpenSpec.ofChange flagApartSpec)) flagApartCard

/-- THE TIED CARD OF 'wellspringlaw07.FlagAnswers'. -/
def flagAnswersCard : Claim7 := { stood := { row := flagAnswersRow, standIns := [], harness := (true, "399576f64253eff579705caa6b491c0f6b304393c538e1b041147b0297a7022d"), looks := false }, kinds := [], alts := [], laidByText := true, laidKinds := [.data], laidTests := true, laidLooks := .later }
def FlagAnswersCardSaid : Prop := Claim7.holds Tryd.pinned (.plain (OpenSpec.ofChange flagAnswersSpec)) flagAnswersCard

/-- THE TIED CARD OF 'wellspringlaw07.FlagCodes'. -/
def flagCodesCard : Claim7 := { stood := { row := flagCodesRow, standIns := [], harness := (true, "399576f64253eff579705caa6b491c0f6b304393c538e1b041147b0297a7022d"), looks := false }, kinds := [], alts := [], laidByText := true, laidKinds := [.data], laidTests := true, laidLooks := .later }
def FlagCodesCardSaid : Prop := Claim7.holds Tryd.pinned (.plain (OpenSpec.ofChange flagCodesSpec)) flagCodesCard

/-- THE TIED CARD OF 'wellspringlaw07.FlagTwice'. -/
def flagTwiceCard : Claim7 := { stood := { row := flagTwiceRow, standIns := [], harness := (true, "399576f64253eff579705caa6b491c0f6b304393c538e1b041147b0297a7022d"), looks := false }, kinds := [], alts := [], laidByText := true, laidKinds := [.data], laidTests := true, laidLooks := .later }
def FlagTwiceCardSaid : Prop := Claim7.holds Tryd.pinned (.plain (OpenSpec.ofChange flagTwiceSpec)) flagTwiceCard

/-- THE SECOND FORM's CARD OF 'wellspringlaw07.FlagTells'. -/
def flagTellsUptoCard : Claim7 := { stood := { row := flagTellsUptoRow, standIns := [], harness := (true, "399576f64253eff579705caa6b491c0f6b304393c538e1b041147b0297a7022d"), looks := false }, kinds := [], alts := [], laidByText := true, laidKinds := [.data], laidTests := true, laidLooks := .later }
def FlagTellsUptoCardSaid : Prop := Claim7.holds Tryd.pinned (.plain (OpenSpec.upto flagTellsSpec)) flagTellsUptoCard

/-- THE SECOND FORM's CARD OF 'wellspringlaw07.FlagApart'. -/
def flagApartUptoCard : Claim7 := { stood := { row := flagApartUptoRow, standIns := [], harness := (true, "399576f64253eff579705caa6b491c0f6b304393c538e1b041147b0297a7022d"), looks := false }, kinds := [], alts := [], laidByText := true, laidKinds := [.data], laidTests := true, laidLooks := .later }
def FlagApartUptoCardSaid : Prop := Claim7.holds Tryd.pinned (.plain (OpenSpec.upto flagApartSpec)) flagApartUptoCard

/-- THE SECOND FORM's CARD OF 'wellspringlaw07.FlagAnswers'. -/
def flagAnswersUptoCard : Claim7 := { stood := { row := flagAnswersUptoRow, standIns := [], harness := (true, "399576f64253eff579705caa6b491c0f6b304393c538e1b041147b0297a7022d"), looks := false }, kinds := [], alts := [], laidByText := true, laidKinds := [.data], laidTests := true, laidLooks := .later }
def FlagAnswersUptoCardSaid : Prop := Claim7.holds Tryd.pinned (.plain (OpenSpec.upto flagAnswersSpec)) flagAnswersUptoCard

/-- THE SECOND FORM's CARD OF 'wellspringlaw07.FlagCodes'. -/
def flagCodesUptoCard : Claim7 := { stood := { row := flagCodesUptoRow, standIns := [], harness := (true, "399576f64253eff579705caa6b491c0f6b304393c538e1b041147b0297a7022d"), looks := false }, kinds := [], alts := [], laidByText := true, laidKinds := [.data], laidTests := true, laidLooks := .later }
def FlagCodesUptoCardSaid : Prop := Claim7.holds Tryd.pinned (.plain (OpenSpec.upto flagCodesSpec)) flagCodesUptoCard

/-- THE SECOND FORM's CARD OF 'wellspringlaw07.FlagTwice'. -/
def flagTwiceUptoCard : Claim7 := { stood := { row := flagTwiceUptoRow, standIns := [], harness := (true, "399576f64253eff579705caa6b491c0f6b304393c538e1b041147b0297a7022d"), looks := false }, kinds := [], alts := [], laidByText := true, laidKinds := [.data], laidTests := true, laidLooks := .later }
def FlagTwiceUptoCardSaid : Prop := Claim7.holds Tryd.pinned (.plain (OpenSpec.upto flagTwiceSpec)) flagTwiceUptoCard
end Rows
end Go.Proofs.YtcnpnlbmibnkdaaDoor
