/- NegNil answers true, for every input: the walk, whole. -/
import Derived.Test.YtedcjkfiljjpiaaLNegNil
import Derived.Test.YtedcjkfiljjpiaaNgV
namespace Go.Proofs.Ytedcjkfiljjpiaa
open Go.RowKit

theorem NegNil_walk (v : Value) (o : Op15) (w : World) (hv : Op15At w v o) (hf : Op15Fine o) :
    Calls Try.prog 5 #[v] w fun e w' => e = .returned (.bool true) ∧ Keeps w w' := NegNil_go live15_any v o w hv hf
end Go.Proofs.Ytedcjkfiljjpiaa
