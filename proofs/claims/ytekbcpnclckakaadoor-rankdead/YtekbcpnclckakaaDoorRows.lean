/-
  NARROWER THAN 'FOR EVERY INPUT', by the rows' own cells (each row's printed sentence says how): RankTells: laid · RankOrder: laid · RankDead: laid.
  DERIVED. THE GIVEN ROWS OF THIS SEAT. 3 by the template 'for every input the law returns true; each argument reads behind the call as it read before'; 0 by the template 'total and deterministic' (their statements: YtekbcpnclckakaaDoorTotals.lean).
  GIVEN WITH THE SEED: the statements are not yours to turn. If you find one false, say at which input.
  Laid BY PROGRAM, IN A SANDBOX (cutbox-rows.mjs): the forced cells as the released guide's own fill.sh prints them over the translation 0e4c028950723def… (all of the seat's roots in one cut). By AI agents, Wed Nov 11 2026. No macro, syntax, notation, axiom, sorry.
-/
import Derived.Test.YtekbcpnclckakaaDoorChecked
import GoSem.Claim
import GoSem.ClaimJoined
import GoSem.ClaimMapViews
import Derived.JoinedTies
import Derived.KernelRfl
namespace Go.Proofs.YtekbcpnclckakaaDoor
/- THE CELL 'sum', in the pinned program and in every row, IS THE sha256 OF THE DUMP (.gsa) THAT YtekbcpnclckakaaDoorProg.lean LOADS. Nothing in Lean hashes anything: it is a label: what it is worth is what the hold of that sum in a sandbox is worth. -/
noncomputable def Tryd.pinned : Pinned := { name := "ytekbcpnclckakaadoor", sum := "0e4c028950723defebb5cdf8289542e08a1e8c09ab05198fa035f12452a1d2d9", checked := Tryd.checked }
namespace Rows
def none {H : Type} : Left H := { results := [], args := [] }

/- WHAT THE LISTED PACKAGE-LEVEL VARIABLES READ AS WHEN THE CALL BEGINS. Each datum BY PROGRAM (the guide's laid-datum.mjs) off the statement by which the dump's own 'gosem.cut.vars' lays the variable. In a bare row this is a premise. The card (YtekbcpnclckakaaDoorCards.lean) ties it to the program's text. -/
def laid_wellspring_rank_ranks {H : Type} : DataW H := .agg [.agg [.lit (.int .i64 3), .lit (.int .i64 5)], .agg [.lit (.int .i64 1), .lit (.int .i64 4)], .agg [.lit (.int .i64 1), .lit (.int .i64 2)]]

/-- 'wellspringlaw11.RankTells': WHATEVER THE INPUT: true; the input reads as it did. -/
def rankTellsSpec : ChangeSpec := { name := "rankTells", fn := fun _ => fun
  | [d1, d2, d3] => { results := [.lit (.bool true)], args := [d1, d2, d3] }
  | _ => none }
def rankTellsRow : OpenClaim := { program := "ytekbcpnclckakaadoor", sum := "0e4c028950723defebb5cdf8289542e08a1e8c09ab05198fa035f12452a1d2d9", func := "wellspring/wellspringlaw11.RankTells", spec := "rankTells", named := ["wellspring/rank.ranks"], apart := false, laid := [("wellspring/rank.ranks", laid_wellspring_rank_ranks)] }
def RankTellsSaid : Prop := rankTellsRow.holds Tryd.pinned (OpenSpec.ofChange rankTellsSpec)

/-- ITS FALSE NEIGHBOUR: 'it returns false'. Refute it at one input. -/
def rankTellsWrong : ChangeSpec := { name := "rankTells", fn := fun _ => fun
  | [d1, d2, d3] => { results := [.lit (.bool false)], args := [d1, d2, d3] }
  | _ => none }
def RankTellsWrongFalsely : Prop := rankTellsRow.holds Tryd.pinned (OpenSpec.ofChange rankTellsWrong)

/-- 'wellspringlaw11.RankOrder': WHATEVER THE INPUT: true; the input reads as it did. -/
def rankOrderSpec : ChangeSpec := { name := "rankOrder", fn := fun _ => fun
  | [d1, d2, d3] => { results := [.lit (.bool true)], args := [d1, d2, d3] }
  | _ => none }
def rankOrderRow : OpenClaim := { program := "ytekbcpnclckakaadoor", sum := "0e4c028950723defebb5cdf8289542e08a1e8c09ab05198fa035f12452a1d2d9", func := "wellspring/wellspringlaw11.RankOrder", spec := "rankOrder", named := ["wellspring/rank.ranks"], apart := false, laid := [("wellspring/rank.ranks", laid_wellspring_rank_ranks)] }
def RankOrderSaid : Prop := rankOrderRow.holds Tryd.pinned (OpenSpec.ofChange rankOrderSpec)

/-- ITS FALSE NEIGHBOUR: 'it returns false'. Refute it at one input. -/
def rankOrderWrong : ChangeSpec := { name := "rankOrder", fn := fun _ => fun
  | [d1, d2, d3] => { results := [.lit (.bool false)], args := [d1, d2, d3] }
  | _ => none }
def RankOrderWrongFalsely : Prop := rankOrderRow.holds Tryd.pinned (OpenSpec.ofChange rankOrderWrong)

/-- 'wellspringlaw11.RankDead': WHATEVER THE INPUT: true; the input reads as it did. -/
def rankDeadSpec : ChangeSpec := { name := "rankDead", fn := fun _ => fun
  | [d1, d2, d3] => { results := [.lit (.bool true)], args := [d1, d2, d3] }
  | _ => none }
def rankDeadRow : OpenClaim := { program := "ytekbcpnclckakaadoor", sum := "0e4c028950723defebb5cdf8289542e08a1e8c09ab05198fa035f12452a1d2d9", func := "wellspring/wellspringlaw11.RankDead", spec := "rankDead", named := ["wellspring/rank.ranks"], apart := false, laid := [("wellspring/rank.ranks", laid_wellspring_rank_ranks)] }
def RankDeadSaid : Prop := rankDeadRow.holds Tryd.pinned (OpenSpec.ofChange rankDeadSpec)

/-- ITS FALSE NEIGHBOUR: 'it returns false'. Refute it at one input. -/
def rankDeadWrong : ChangeSpec := { name := "rankDead", fn := fun _ => fun
  | [d1, d2, d3] => { results := [.lit (.bool false)], args := [d1, d2, d3] }
  | _ => none }
def RankDeadWrongFalsely : Prop := rankDeadRow.holds Tryd.pinned (OpenSpec.ofChange rankDeadWrong)

/- THE SECOND FORM. 'bulk': how many values and letters a reading holds, each counted each time it is reached (what is shared counts as often as it is met; a slice's spare places count too). A statement '..UptoSaid' is the law's where the arguments, and the package variables that the reading takes, are together of bulk at most 1048576: NARROWER than '..Said'. Prove '..Said' where nothing that the law and all that it calls make is longer than what came in: it says more and counts as full. Else prove '..UptoSaid'. A law counts once. -/
mutual
def uptoBulk {H : Type} : DataW H → Nat
  | .lit (.string bytes) => bytes.length + 1
  | .lit _ => 1
  | .nil => 1
  | .ptr d => uptoBulk d + 1
  | .slice elems spare => uptoBulkAll elems + uptoBulkAll spare + 1
  | .agg parts => uptoBulkAll parts + 1
  | .iface _ d => uptoBulk d + 1
  | .map entries => uptoBulkEntries entries + 1
  | .held _ => 1
def uptoBulkAll {H : Type} : List (DataW H) → Nat
  | [] => 0
  | d :: r => uptoBulk d + uptoBulkAll r
def uptoBulkEntries {H : Type} : List (Lit × DataW H) → Nat
  | [] => 0
  | x :: r => uptoBulkEntry x + uptoBulkEntries r
def uptoBulkEntry {H : Type} : Lit × DataW H → Nat
  | (.string bytes, d) => bytes.length + uptoBulk d + 1
  | (_, d) => uptoBulk d + 1
 end
def uptoSmall : (H : Type) → List (DataW H) → Bool := fun _ ds => decide (uptoBulkAll ds ≤ 1048576)
def OpenSpec.upto (s : _root_.Go.ChangeSpec) : _root_.Go.OpenSpec := { _root_.Go.OpenSpec.ofChange s with cond := some uptoSmall }

/-- 'wellspringlaw11.RankTells', WHERE WHAT IT READS IS OF BULK AT MOST 1048576: true; the input reads as it did. -/
def rankTellsUptoRow : OpenClaim := { program := "ytekbcpnclckakaadoor", sum := "0e4c028950723defebb5cdf8289542e08a1e8c09ab05198fa035f12452a1d2d9", func := "wellspring/wellspringlaw11.RankTells", spec := "rankTells", named := ["wellspring/rank.ranks"], apart := false, laid := [("wellspring/rank.ranks", laid_wellspring_rank_ranks)], narrowed := true }
def RankTellsUptoSaid : Prop := rankTellsUptoRow.holds Tryd.pinned (OpenSpec.upto rankTellsSpec)

/-- 'wellspringlaw11.RankOrder', WHERE WHAT IT READS IS OF BULK AT MOST 1048576: true; the input reads as it did. -/
def rankOrderUptoRow : OpenClaim := { program := "ytekbcpnclckakaadoor", sum := "0e4c028950723defebb5cdf8289542e08a1e8c09ab05198fa035f12452a1d2d9", func := "wellspring/wellspringlaw11.RankOrder", spec := "rankOrder", named := ["wellspring/rank.ranks"], apart := false, laid := [("wellspring/rank.ranks", laid_wellspring_rank_ranks)], narrowed := true }
def RankOrderUptoSaid : Prop := rankOrderUptoRow.holds Tryd.pinned (OpenSpec.upto rankOrderSpec)

/-- 'wellspringlaw11.RankDead', WHERE WHAT IT READS IS OF BULK AT MOST 1048576: true; the input reads as it did. -/
def rankDeadUptoRow : OpenClaim := { program := "ytekbcpnclckakaadoor", sum := "0e4c028950723defebb5cdf8289542e08a1e8c09ab05198fa035f12452a1d2d9", func := "wellspring/wellspringlaw11.RankDead", spec := "rankDead", named := ["wellspring/rank.ranks"], apart := false, laid := [("wellspring/rank.ranks", laid_wellspring_rank_ranks)], narrowed := true }
def RankDeadUptoSaid : Prop := rankDeadUptoRow.holds Tryd.pinned (OpenSpec.upto rankDeadSpec)

end Rows
end Go.Proofs.YtekbcpnclckakaaDoor
