/- Lists of string, the program's own functions on them: held against itself, dropped. No condition but lengths. (Made by tools/gen_lru.py.) -/
import Derived.Test.YtafkpdjcfokgbaaLruR
import Derived.Defers
import Derived.Recover
namespace Go.Proofs.Ytafkpdjcfokgbaa
open Go.RowKit

theorem catch_t (p : Addr) (w : World) :
    CallsD Try.prog 30 #[.pointer (some p)] .returning w fun e u' w' => e = .returned (.tuple #[]) ∧ u' = .returning ∧ w' = w := by
  refine callsD_of_wpS Try.func30 rfl fun c₀ cs hu => ?_
  apply wpS_seq
  apply wpS_region
  simp [wpOpsS, go_sem, recoverD, hu, Try.ntmps30, Exit.thenS]
  refine wpS_cond (t := false) (by simp [Act.eval, Array.replicate]) ?_
  simp only [Bool.false_eq_true, if_false]
  refine wpS_of_wp (wp_skip ?_)
  cases c₀
  simp_all [bodyPostS, results, Try.results30]
/-- Whatever is a string is equal to itself. -/
theorem itself_t (x : (List UInt8)) (w : World) : Calls Try.prog 28 #[sv x] w fun e w' => e = .returned (.bool true) ∧ Keeps w w' := by
  have hmf : ∀ (fn : Fn) (first cap : Array Value) (w : World), (Instr.makeFunc fn first cap).run Try.prog w = .ok (.func fn first cap) w := fun _ _ _ _ => rfl
  simp only [sv]
  go_enter_defers Try.func28, Try.ntmps28
  go_wp2
  refine leaves_cons (f := 30) (args := #[.pointer (some ⟨w.heap.size, 0, none⟩)]) (by simp) (by simp [go_sem]) ?_
  refine (catch_t ⟨w.heap.size, 0, none⟩ _).mono ?_
  rintro e u' w'' ⟨rfl, rfl, rfl⟩
  have K : Keeps w ((w.alloc (.cells #[.bool false] 4)).setCell ⟨w.heap.size, 0, none⟩ (.bool true)) := Keeps.setC (Keeps.alloc (Keeps.refl _) _) _ (by simp) _
  simpa [Leaves, settle, results, Try.results28, go_sem] using K
end Go.Proofs.Ytafkpdjcfokgbaa
