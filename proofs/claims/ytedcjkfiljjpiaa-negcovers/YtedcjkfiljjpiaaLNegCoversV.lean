/- NegCovers answers true, for every input: the walk, whole. -/
import Derived.Test.YtedcjkfiljjpiaaLNegCovers
import Derived.Test.YtedcjkfiljjpiaaNgV
namespace Go.Proofs.Ytedcjkfiljjpiaa
open Go.RowKit

theorem NegCovers_walk (room : Int) (v : Value) (zs : List (Op15 × Value)) (kind : Int) (w : World) (hr : -9223372036854775808 ≤ room ∧ room ≤ 9223372036854775807) (hv : Ops15At w v zs) (hk : -9223372036854775808 ≤ kind ∧ kind ≤ 9223372036854775807) :
    Calls Try.prog 4 #[.int .i64 room, v, .int .i64 kind] w fun e w' => e = .returned (.bool true) ∧ Keeps w w' := NegCovers_go live15_any room v zs kind w hr hv hk
end Go.Proofs.Ytedcjkfiljjpiaa
