/- A store out of which something is dropped; a change is counted as the call ends. No condition but lengths. -/
import Derived.Test.YtgfaoaabnjblhaaStoG
import Derived.Deep.RegionLaw
namespace Go.Proofs.Ytgfaoaabnjblhaa
open Go.RowKit

set_option maxHeartbeats 4000000 in
set_option maxRecDepth 100000 in
theorem count_no (v : Value) (w : World) : Calls Try.prog 40 #[v, .bool false] w fun e w' => e = .returned (.tuple #[]) ∧ w' = w := by
  go_enter Try.func40, Try.ntmps40
  go_wp2
  go_end0
  exact ⟨rfl, rfl⟩
set_option maxHeartbeats 4000000 in
set_option maxRecDepth 100000 in
theorem count_yes (p : Nat) (n : Int) (w : World) (hc : w.cell? ⟨p, 3, none⟩ = some (.int .i64 n)) (hf : w.frozen? ⟨p, 3, none⟩ = false) (hn : 0 ≤ n ∧ n ≤ 1099511627776) :
    Calls Try.prog 40 #[.pointer (some ⟨p, 0, none⟩), .bool true] w fun e w' => e = .returned (.tuple #[]) ∧ w' = w.setCell ⟨p, 3, none⟩ (.int .i64 (n + 1)) := by
  have hw : IntKind.i64.wrap (n + 1) = n + 1 := by rw [IntKind.wrap_i64]; omega
  go_enter Try.func40, Try.ntmps40
  go_wp2
  go_end0
  exact ⟨rfl, rfl⟩


/-- What the deferred closures do: nothing, or they count. -/
def Counted (w : World) (sp : Option Nat) (n : Int) (yes : Bool) (w' : World) : Prop := (yes = false ∧ w' = w) ∨ (yes = true ∧ ∃ p, sp = some p ∧ w' = w.setCell ⟨p, 3, none⟩ (.int .i64 (n + 1)))
def ptrV : Option Nat → Value | none => .pointer none | some p => .pointer (some ⟨p, 0, none⟩)
set_option maxHeartbeats 4000000 in
set_option maxRecDepth 100000 in
theorem dropDefer_no (a c : Nat) (v : Value) (_ : v.cells = #[v]) (u : FrameMode) (w : World) (ha : w.cell? ⟨a, 0, none⟩ = some v) (hc : w.cell? ⟨c, 0, none⟩ = some (.bool false)) :
    CallsD Try.prog 50 #[.pointer (some ⟨a, 0, none⟩), .pointer (some ⟨c, 0, none⟩)] u w fun e u' w' => u' = u ∧ e = .returned (.tuple #[]) ∧ w' = w := by
  go_enter_d Try.func50, Try.ntmps50
  go_wp2_with fail
  refine (count_no _ _).mono ?_
  rintro e w1 ⟨rfl, rfl⟩
  go_wp2
  go_end0
  exact ⟨rfl, rfl⟩
set_option maxHeartbeats 4000000 in
set_option maxRecDepth 100000 in
theorem dropDefer_yes (a c p : Nat) (n : Int) (u : FrameMode) (w : World) (ha : w.cell? ⟨a, 0, none⟩ = some (.pointer (some ⟨p, 0, none⟩))) (hc : w.cell? ⟨c, 0, none⟩ = some (.bool true)) (h3 : w.cell? ⟨p, 3, none⟩ = some (.int .i64 n)) (hf : w.frozen? ⟨p, 3, none⟩ = false) (hn : 0 ≤ n ∧ n ≤ 1099511627776) :
    CallsD Try.prog 50 #[.pointer (some ⟨a, 0, none⟩), .pointer (some ⟨c, 0, none⟩)] u w fun e u' w' => u' = u ∧ e = .returned (.tuple #[]) ∧ w' = w.setCell ⟨p, 3, none⟩ (.int .i64 (n + 1)) := by
  have HC := hide (count_yes p n w h3 hf hn)
  clear h3 hf
  go_enter_d Try.func50, Try.ntmps50
  go_wp2_with fail
  refine (HC.out).mono ?_
  rintro e w1 ⟨rfl, rfl⟩
  go_wp2
  go_end0
  exact ⟨rfl, rfl⟩
set_option maxHeartbeats 4000000 in
set_option maxRecDepth 100000 in
theorem putDefer_no (a c : Nat) (k : Int) (hk : (k == 0) = false) (v : Value) (_ : v.cells = #[v]) (u : FrameMode) (w : World) (ha : w.cell? ⟨a, 0, none⟩ = some v) (hc : w.cell? ⟨c, 0, none⟩ = some (.int .i64 k)) :
    CallsD Try.prog 39 #[.pointer (some ⟨a, 0, none⟩), .pointer (some ⟨c, 0, none⟩)] u w fun e u' w' => u' = u ∧ e = .returned (.tuple #[]) ∧ w' = w := by
  have hk2 : ¬ k = 0 := by simpa using hk
  go_enter_d Try.func39, Try.ntmps39
  go_wp2_with fail
  refine (count_no _ _).mono ?_
  rintro e w1 ⟨rfl, rfl⟩
  go_wp2
  go_end0
  exact ⟨rfl, rfl⟩
set_option maxHeartbeats 4000000 in
set_option maxRecDepth 100000 in
theorem putDefer_yes (a c p : Nat) (n : Int) (u : FrameMode) (w : World) (ha : w.cell? ⟨a, 0, none⟩ = some (.pointer (some ⟨p, 0, none⟩))) (hc : w.cell? ⟨c, 0, none⟩ = some (.int .i64 0)) (h3 : w.cell? ⟨p, 3, none⟩ = some (.int .i64 n)) (hf : w.frozen? ⟨p, 3, none⟩ = false) (hn : 0 ≤ n ∧ n ≤ 1099511627776) :
    CallsD Try.prog 39 #[.pointer (some ⟨a, 0, none⟩), .pointer (some ⟨c, 0, none⟩)] u w fun e u' w' => u' = u ∧ e = .returned (.tuple #[]) ∧ w' = w.setCell ⟨p, 3, none⟩ (.int .i64 (n + 1)) := by
  have HC := hide (count_yes p n w h3 hf hn)
  clear h3 hf
  go_enter_d Try.func39, Try.ntmps39
  go_wp2_with fail
  refine (HC.out).mono ?_
  rintro e w1 ⟨rfl, rfl⟩
  go_wp2
  go_end0
  exact ⟨rfl, rfl⟩

/-- 'delete(m, q)', as a step of a region that draws. -/
theorem step_delV {w : World} {ops : Array Oper} {o : Oper} {a : Act} {K : Act → World → Prop} {Q : Exit → Act → World → Prop} {E : Prop} {m n : Nat} {f : Qn → Option Value}
    (hgd : o.guard = none) (x y : Operand) (ho : o.op = .call { callee := .builtin .delete, args := #[x, y], argTypes := #[71, 32] })
    (hm : a.eval x = .map (some m)) (h : MapV w 32 qnV m n f) (q : Qn) (hq : QnFine q) (hx : a.eval y = .agg #[.string q.n, .int .i64 q.t, .int .i64 q.c])
    (hK : ∀ w', MapV w' 32 qnV m n (fun k => if k = q then none else f k) → w.mapTurned w' m → K (a.put o.dst (.tuple #[])) w') :
    if Region.wanted o (yielded ops a.tmps) = true then Oper.wp Try.prog o a w K Q else E := by
  have hw : Region.wanted o (yielded ops a.tmps) = true := by simp [Region.wanted, hgd]
  rw [if_pos hw]
  obtain ⟨w', hrun, h1, h2⟩ := h.del (t := 71) (e := 46) lawQ14 Try.underlying71 qnV_inj q (keyQ q hq.1 hq.2.1 hq.2.2) o.type
  unfold qnV at hrun
  unfold Oper.wp
  simp [execOp, ho, resolve, invoke, builtin, hm, hx, hrun, Result.andThen]
  exact hK w' h1 h2
end Go.Proofs.Ytgfaoaabnjblhaa
