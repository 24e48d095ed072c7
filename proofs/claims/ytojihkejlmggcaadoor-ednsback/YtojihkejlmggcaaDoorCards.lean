/-
  DERIVED. GIVEN WITH THE SEED: THE CARDS: each row of YtojihkejlmggcaaDoorRows.lean that lists a variable, with what it lists TIED to the program's text (the seventh form; the later family's looks); each row that meets fmt, with fmt's text TOLD by the authors' own Lean function (tested against real Go, not proved from fmt's source: count such statements apart). THE CARD IS WHAT COUNTS. Prove the row's statement (the work); the ties are given (YtojihkejlmggcaaDoorTie.lean); close each card by the builder's one call (the guide's Derived/Test/ToyasCard.lean, 'card_holds'). Laid BY PROGRAM, IN A SANDBOX (cutbox-door.mjs). By AI agents, Wed Nov 11 2026. No macro, syntax, notation, axiom, sorry.
-/
import Derived.Test.YtojihkejlmggcaaDoorRows
import GoSem.ClaimSeven
namespace Go.Proofs.YtojihkejlmggcaaDoor
namespace Rows

/-- THE TIED CARD OF 'wellspringlaw09.EdnsFinds'. -/
def ednsFindsCard : Claim7 := { stood := { row := ednsFindsRow, standIns := [], harness := (true, "58731f287255b89b6c76b28e43a31b67ac877b748c377d146ae045d1024b32b9"), looks := false }, kinds := [], alts := [], laidByText := true, laidKinds := [.data], laidTests := true, laidLooks := .later }
def EdnsFindsCardSaid : Prop := Claim7.holds Tryd.pinned (.plain (OpenSpec.ofChange ednsFindsSpec)) ednsFindsCard

/-- THE TIED CARD OF 'wellspringlaw09.EdnsTells'. -/
def ednsTellsCard : Claim7 := { stood := { row := ednsTellsRow, standIns := [], harness := (true, "58731f287255b89b6c76b28e43a31b67ac877b748c377d146ae045d1024b32b9"), looks := false }, kinds := [], alts := [], laidByText := true, laidKinds := [.data], laidTests := true, laidLooks := .later }
def EdnsTellsCardSaid : Prop := Claim7.holds Tryd.pinned (.plain (OpenSpec.ofChange ednsTellsSpec)) ednsTellsCard

/-- THE TIED CARD OF 'wellspringlaw09.EdnsBack'. -/
def ednsBackCard : Claim7 := { stood := { row := ednsBackRow, standIns := [], harness := (true, "58731f287255b89b6c76b28e43a31b67ac877b748c377d146ae045d1024b32b9"), looks := false }, kinds := [], alts := [], laidByText := true, laidKinds := [.data], laidTests := true, laidLooks := .later }
def EdnsBackCardSaid : Prop := Claim7.holds Tryd.pinned (.plain (OpenSpec.ofChange ednsBackSpec)) ednsBackCard

/-- THE TIED CARD OF 'wellspringlaw09.EdnsLimits'. -/
def ednsLimitsCard : Claim7 := { stood := { row := ednsLimitsRow, standIns := [], harness := (true, "58731f287255b89b6c76b28e43a31b67ac877b748c377d146ae045d1024b32b9"), looks := false }, kinds := [], alts := [], laidByText := true, laidKinds := [.data], laidTests := true, laidLooks := .later }
def EdnsLimitsCardSaid : Prop := Claim7.holds Tryd.pinned (.plain (OpenSpec.ofChange ednsLimitsSpec)) ednsLimitsCard

/-- THE TIED CARD OF 'wellspringlaw09.EdnsCodes'. -/
def ednsCodesCard : Claim7 := { stood := { row := ednsCodesRow, standIns := [], harness := (true, "58731f287255b89b6c76b28e43a31b67ac877b748c377d146ae045d1024b32b9"), looks := false }, kinds := [], alts := [], laidByText := true, laidKinds := [.data], laidTests := true, laidLooks := .later }
def EdnsCodesCardSaid : Prop := Claim7.holds Tryd.pinned (.plain (OpenSpec.ofChange ednsCodesSpec)) ednsCodesCard

/-- THE SECOND FORM's CARD OF 'wellspringlaw09.EdnsFinds'. -/
def ednsFindsUptoCard : Claim7 := { stood := { row := ednsFindsUptoRow, standIns := [], harness := (true, "58731f287255b89b6c76b28e43a31b67ac877b748c377d146ae045d1024b32b9"), looks := false }, kinds := [], alts := [], laidByText := true, laidKinds := [.data], laidTests := true, laidLooks := .later }
def EdnsFindsUptoCardSaid : Prop := Claim7.holds Tryd.pinned (.plain (OpenSpec.upto ednsFindsSpec)) ednsFindsUptoCard

/-- THE SECOND FORM's CARD OF 'wellspringlaw09.EdnsTells'. -/
def ednsTellsUptoCard : Claim7 := { stood := { row := ednsTellsUptoRow, standIns := [], harness := (true, "58731f287255b89b6c76b28e43a31b67ac877b748c377d146ae045d1024b32b9"), looks := false }, kinds := [], alts := [], laidByText := true, laidKinds := [.data], laidTests := true, laidLooks := .later }
def EdnsTellsUptoCardSaid : Prop := Claim7.holds Tryd.pinned (.plain (OpenSpec.upto ednsTellsSpec)) ednsTellsUptoCard

/-- THE SECOND FORM's CARD OF 'wellspringlaw09.EdnsBack'. -/
def ednsBackUptoCard : Claim7 := { stood := { row := ednsBackUptoRow, standIns := [], harness := (true, "58731f287255b89b6c76b28e43a31b67ac877b748c377d146ae045d1024b32b9"), looks := false }, kinds := [], alts := [], laidByText := true, laidKinds := [.data], laidTests := true, laidLooks := .later }
def EdnsBackUptoCardSaid : Prop := Claim7.holds Tryd.pinned (.plain (OpenSpec.upto ednsBackSpec)) ednsBackUptoCard

/-- THE SECOND FORM's CARD OF 'wellspringlaw09.EdnsLimits'. -/
def ednsLimitsUptoCard : Claim7 := { stood := { row := ednsLimitsUptoRow, standIns := [], harness := (true, "58731f287255b89b6c76b28e43a31b67ac877b748c377d146ae045d1024b32b9"), looks := false }, kinds := [], alts := [], laidByText := true, laidKinds := [.data], laidTests := true, laidLooks := .later }
def EdnsLimitsUptoCardSaid : Prop := Claim7.holds Tryd.pinned (.plain (OpenSpec.upto ednsLimitsSpec)) ednsLimitsUptoCard

/-- THE SECOND FORM's CARD OF 'wellspringlaw09.EdnsCodes'. -/
def ednsCodesUptoCard : Claim7 := { stood := { row := ednsCodesUptoRow, standIns := [], harness := (true, "58731f287255b89b6c76b28e43a31b67ac877b748c377d146ae045d1024b32b9"), looks := false }, kinds := [], alts := [], laidByText := true, laidKinds := [.data], laidTests := true, laidLooks := .later }
def EdnsCodesUptoCardSaid : Prop := Claim7.holds Tryd.pinned (.plain (OpenSpec.upto ednsCodesSpec)) ednsCodesUptoCard
end Rows
end Go.Proofs.YtojihkejlmggcaaDoor
