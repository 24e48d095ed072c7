/- Lists of int, the program's own functions on them: held against itself, dropped. No condition but lengths. (Made by tools/gen_lru.py.) -/
import Derived.Test.YtafkpdjcfokgbaaLruR
import Derived.Defers
import Derived.Recover
namespace Go.Proofs.Ytafkpdjcfokgbaa
open Go.RowKit

theorem catch_i (p : Addr) (w : World) :
    CallsD Try.prog 29 #[.pointer (some p)] .returning w fun e u' w' => e = .returned (.tuple #[]) ∧ u' = .returning ∧ w' = w := by
  refine callsD_of_wpS Try.func29 rfl fun c₀ cs hu => ?_
  apply wpS_seq
  apply wpS_region
  simp [wpOpsS, go_sem, recoverD, hu, Try.ntmps29, Exit.thenS]
  refine wpS_cond (t := false) (by simp [Act.eval, Array.replicate]) ?_
  simp only [Bool.false_eq_true, if_false]
  refine wpS_of_wp (wp_skip ?_)
  cases c₀
  simp_all [bodyPostS, results, Try.results29]
/-- Whatever is a int is equal to itself. -/
theorem itself_i (x : Int) (w : World) : Calls Try.prog 27 #[i1 x] w fun e w' => e = .returned (.bool true) ∧ Keeps w w' := by
  have hmf : ∀ (fn : Fn) (first cap : Array Value) (w : World), (Instr.makeFunc fn first cap).run Try.prog w = .ok (.func fn first cap) w := fun _ _ _ _ => rfl
  simp only [i1]
  go_enter_defers Try.func27, Try.ntmps27
  go_wp2
  refine leaves_cons (f := 29) (args := #[.pointer (some ⟨w.heap.size, 0, none⟩)]) (by simp) (by simp [go_sem]) ?_
  refine (catch_i ⟨w.heap.size, 0, none⟩ _).mono ?_
  rintro e u' w'' ⟨rfl, rfl, rfl⟩
  have K : Keeps w ((w.alloc (.cells #[.bool false] 4)).setCell ⟨w.heap.size, 0, none⟩ (.bool true)) := Keeps.setC (Keeps.alloc (Keeps.refl _) _) _ (by simp) _
  simpa [Leaves, settle, results, Try.results27, go_sem] using K
end Go.Proofs.Ytafkpdjcfokgbaa
