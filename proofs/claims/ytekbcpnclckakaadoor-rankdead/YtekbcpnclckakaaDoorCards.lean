/-
  DERIVED. GIVEN WITH THE SEED: THE CARDS: each row of YtekbcpnclckakaaDoorRows.lean that lists a variable, with what it lists TIED to the program's text (the seventh form; the later family's looks); each row that meets fmt, with fmt's text TOLD by the authors' own Lean function (tested against real Go, not proved from fmt's source: count such statements apart). THE CARD IS WHAT COUNTS. Prove the row's statement (the work); the ties are given (YtekbcpnclckakaaDoorTie.lean); close each card by the builder's one call (the guide's Derived/Test/ToyasCard.lean, 'card_holds'). Laid BY PROGRAM, IN A SANDBOX (cutbox-door.mjs). By AI agents, Wed Nov 11 2026. No macro, syntax, notation, axiom, sorry.
-/
import Derived.Test.YtekbcpnclckakaaDoorRows
import GoSem.ClaimSeven
namespace Go.Proofs.YtekbcpnclckakaaDoor
namespace Rows

/-- THE TIED CARD OF 'wellspringlaw11.RankTells'. -/
def rankTellsCard : Claim7 := { stood := { row := rankTellsRow, standIns := [], harness := (true, "882fbc4f8eff6283b3a68d6854447c97ee2676782ecb2a1800754ea85b34c4f8"), looks := false }, kinds := [], alts := [], laidByText := true, laidKinds := [.data], laidTests := true, laidLooks := .later }
def RankTellsCardSaid : Prop := Claim7.holds Tryd.pinned (.plain (OpenSpec.ofChange rankTellsSpec)) rankTellsCard

/-- THE TIED CARD OF 'wellspringlaw11.RankOrder'. -/
def rankOrderCard : Claim7 := { stood := { row := rankOrderRow, standIns := [], harness := (true, "882fbc4f8eff6283b3a68d6854447c97ee2676782ecb2a1800754ea85b34c4f8"), looks := false }, kinds := [], alts := [], laidByText := true, laidKinds := [.data], laidTests := true, laidLooks := .later }
def RankOrderCardSaid : Prop := Claim7.holds Tryd.pinned (.plain (OpenSpec.ofChange rankOrderSpec)) rankOrderCard

/-- THE TIED CARD OF 'wellspringlaw11.RankDead'. -/
def rankDeadCard : Claim7 := { stood := { row := rankDeadRow, standIns := [], harness := (true, "882fbc4f8eff6283b3a68d6854447c97ee2676782ecb2a1800754ea85b34c4f8"), looks := false }, kinds := [], alts := [], laidByText := true, laidKinds := [.data], laidTests := true, laidLooks := .later }
def RankDeadCardSaid : Prop := Claim7.holds Tryd.pinned (.plain (OpenSpec.ofChange rankDeadSpec)) rankDeadCard

/-- THE SECOND FORM's CARD OF 'wellspringlaw11.RankTells'. -/
def rankTellsUptoCard : Claim7 := { stood := { row := rankTellsUptoRow, standIns := [], harness := (true, "882fbc4f8eff6283b3a68d6854447c97ee2676782ecb2a1800754ea85b34c4f8"), looks := false }, kinds := [], alts := [], laidByText := true, laidKinds := [.data], laidTests := true, laidLooks := .later }
def RankTellsUptoCardSaid : Prop := Claim7.holds Tryd.pinned (.plain (OpenSpec.upto rankTellsSpec)) rankTellsUptoCard

/-- THE SECOND FORM's CARD OF 'wellspringlaw11.RankOrder'. -/
def rankOrderUptoCard : Claim7 := { stood := { row := rankOrderUptoRow, standIns := [], harness := (true, "882fbc4f8eff6283b3a68d6854447c97ee2676782ecb2a1800754ea85b34c4f8"), looks := false }, kinds := [], alts := [], laidByText := true, laidKinds := [.data], laidTests := true, laidLooks := .later }
def RankOrderUptoCardSaid : Prop := Claim7.holds Tryd.pinned (.plain (OpenSpec.upto rankOrderSpec)) rankOrderUptoCard

/-- THE SECOND FORM's CARD OF 'wellspringlaw11.RankDead'. -/
def rankDeadUptoCard : Claim7 := { stood := { row := rankDeadUptoRow, standIns := [], harness := (true, "882fbc4f8eff6283b3a68d6854447c97ee2676782ecb2a1800754ea85b34c4f8"), looks := false }, kinds := [], alts := [], laidByText := true, laidKinds := [.data], laidTests := true, laidLooks := .later }
def RankDeadUptoCardSaid : Prop := Claim7.holds Tryd.pinned (.plain (OpenSpec.upto rankDeadSpec)) rankDeadUptoCard
end Rows
end Go.Proofs.YtekbcpnclckakaaDoor
