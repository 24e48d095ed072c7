/- NegOld answers true, for every input: the walk, whole. -/
import Derived.Test.YtedcjkfiljjpiaaLNegOld
import Derived.Test.YtedcjkfiljjpiaaNgV
namespace Go.Proofs.Ytedcjkfiljjpiaa
open Go.RowKit

theorem NegOld_walk (v : Value) (zs : List (Op15 × Value)) (q : Qn) (now : Int) (w : World) (hv : Ops15At w v zs) (hq : QnFine q) (hn : -9223372036854775808 ≤ now ∧ now ≤ 9223372036854775807) :
    Calls Try.prog 6 #[v, .agg #[.string q.n, .int .i64 q.t, .int .i64 q.c], .int .i64 now] w fun e w' => e = .returned (.bool true) ∧ Keeps w w' := NegOld_go live15_any v zs q now w hv hq hn
end Go.Proofs.Ytedcjkfiljjpiaa
