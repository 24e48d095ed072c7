/- How much is believed, as plain numbers; what package rank, and the document's answer for it, tell. The condition: the table of ranks reads as the program's text lays it. -/
import Derived.Test.YtedcjkfiljjpiaaBase
import Derived.RegionTactic
import Derived.BigRegion
namespace Go.Proofs.Ytedcjkfiljjpiaa.Rk

def rank (s : Int) (aa : Bool) : Int := if s = 0 then (if aa then 5 else 3) else if s = 1 then (if aa then 4 else 1) else if s = 2 then (if aa then 2 else 1) else 0
def isR (r : Int) : Bool := decide (1 ≤ r ∧ r ≤ 5)
def over (old : Int) (live : Bool) (now : Int) : Bool := isR now && (!live || decide (old ≤ now))
def told (r : Int) : Bool := decide (3 ≤ r ∧ r ≤ 5)
end Go.Proofs.Ytedcjkfiljjpiaa.Rk

namespace Go.Proofs.Ytedcjkfiljjpiaa
open Go.RowKit

def tabR : List Int := [3, 5, 1, 4, 1, 2]
end Go.Proofs.Ytedcjkfiljjpiaa
