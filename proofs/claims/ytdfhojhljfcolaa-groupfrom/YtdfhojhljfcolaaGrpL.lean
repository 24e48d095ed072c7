/- The examples that the statements of layer 10 ask for: what they are. No condition. -/
import Derived.Test.YtdfhojhljfcolaaGrp7
import Derived.Test.YtdfhojhljfcolaaGrpA
namespace Go.Proofs.Ytdfhojhljfcolaa
open Go.RowKit

def gA : Rec := ⟨⟨#[1, 65, 0]⟩, 1, 1, 9, ⟨#[49, 49, 49, 49]⟩⟩
def gB : Rec := ⟨⟨#[1, 97, 0]⟩, 1, 1, 5, ⟨#[50, 50, 50, 50]⟩⟩
def gC : Rec := ⟨⟨#[1, 97, 0]⟩, 2, 1, 5, ⟨#[1, 88, 0]⟩⟩
def gZ : Rec := ⟨⟨#[0]⟩, 41, 0, 0, ⟨#[]⟩⟩
def gQ1 : Qn := ⟨⟨#[1, 97, 0]⟩, 1, 1⟩
def gQ2 : Qn := ⟨⟨#[1, 97, 0]⟩, 2, 1⟩
def gS1 : St := ⟨gQ1, [[49, 49, 49, 49], [50, 50, 50, 50]], 5⟩
def gS2 : St := ⟨gQ2, [[1, 120, 0]], 5⟩
theorem g_from : fromM [gA, gC, gB, gA, gZ] = [gS1, gS2] := by decide +kernel
theorem g_flat : flatM gS1 3 3 = [⟨⟨#[1, 97, 0]⟩, 1, 1, 3, ⟨#[50, 50, 50, 50]⟩⟩, ⟨⟨#[1, 97, 0]⟩, 1, 1, 3, ⟨#[49, 49, 49, 49]⟩⟩] := by decide +kernel
theorem g_flat2 : flatM gS1 (-1) 0 = [] := by decide +kernel
theorem g_flat3 : flatM gS1 0 (-1) = [] := by decide +kernel
theorem g_ok : stOk gS1 = true := by decide +kernel
theorem g_no : stOk noSt = false := by decide +kernel
theorem g_key : keyM gA = gQ1 := by decide +kernel
theorem g_fine1 : StFine gS1 := ⟨by unfold maxLen; decide, by unfold maxLen; decide, by unfold maxLen; decide⟩
theorem g_fine2 : StFine gS2 := ⟨by unfold maxLen; decide, by unfold maxLen; decide, by unfold maxLen; decide⟩
theorem g_fine0 : StFine noSt := ⟨by unfold maxLen; decide, by unfold maxLen; decide, by unfold maxLen; decide⟩
end Go.Proofs.Ytdfhojhljfcolaa
