/- NegDrops answers true, for every input: the walk, whole. -/
import Derived.Test.YtedcjkfiljjpiaaLNegDrops
import Derived.Test.YtedcjkfiljjpiaaNgV
namespace Go.Proofs.Ytedcjkfiljjpiaa
open Go.RowKit

theorem NegDrops_walk (v : Value) (zs : List (Op15 × Value)) (name : ByteArray) (q : Qn) (w : World) (hv : Ops15At w v zs) (hn : name.size ≤ maxLen) (hq : QnFine q) :
    Calls Try.prog 7 #[v, .string name, .agg #[.string q.n, .int .i64 q.t, .int .i64 q.c]] w fun e w' => e = .returned (.bool true) ∧ Keeps w w' := NegDrops_go live15_any v zs name q w hv hn hq
end Go.Proofs.Ytedcjkfiljjpiaa
