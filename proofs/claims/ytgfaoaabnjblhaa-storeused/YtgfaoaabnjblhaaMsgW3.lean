/- What the document's questions and section of layer 8 answer; and both Heads. No condition. -/
import Derived.Test.YtgfaoaabnjblhaaMsgW2
namespace Go.Proofs.Ytgfaoaabnjblhaa
open Go.RowKit

/-- What Head answers. -/
def headV (m : ByteArray) : Value := .tuple #[.int .i64 (hd m 0), .int .i64 (hd m 1), .bool (decide (12 ≤ m.size))]
theorem hd_yes {m : ByteArray} (h : 12 ≤ m.size) (k : Nat) : hd m k = num m k := if_pos h
theorem hd_no {m : ByteArray} (h : ¬ 12 ≤ m.size) (k : Nat) : hd m k = 0 := if_neg h
end Go.Proofs.Ytgfaoaabnjblhaa
