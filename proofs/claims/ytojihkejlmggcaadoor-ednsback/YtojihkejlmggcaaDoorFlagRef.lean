/- What the document's answer for package flag tells. No condition. -/
import Derived.Test.YtojihkejlmggcaaDoorFlag
import Derived.Deep.RegionHeld3
namespace Go.Proofs.YtojihkejlmggcaaDoor
open Go.RowKit

def plV (a b : Int) : Value := .agg #[.int .i64 a, .int .i64 b]
def loF (f : Int) : Int := if f = 0 then 15 else if f = 1 then 11 else if f = 2 then 10 else if f = 3 then 9 else if f = 4 then 8 else if f = 5 then 7 else if f = 6 then 5 else if f = 7 then 4 else 0
def ctF (f : Int) : Int := if 0 ≤ f ∧ f ≤ 8 then (if f = 1 then 4 else if f = 8 then 4 else 1) else 0

set_option maxHeartbeats 4000000 in
theorem place_any (f : Int) (w : World) :
    Calls Tryd.prog 29 #[.int .i64 f] w fun e w' => e = .returned (plV (loF f) (ctF f)) ∧ Keeps w w' := by
  by_cases hf : Fl.isF f = true
  · rcases Fl.field hf with rfl | rfl | rfl | rfl | rfl | rfl | rfl | rfl | rfl
    all_goals
      clear hf
      go_enter Tryd.func29, Tryd.ntmps29
      go_wp2
      exact bodyPost_ret (v := plV (loF _) (ctF _)) (by simp [results, Tryd.results29, go_sem, plV, loF, ctF]) rfl ⟨rfl, ((Keeps.refl _).alloc _).alloc _⟩
  · have hc : plV (loF f) (ctF f) = plV 0 0 := by
      simp only [Fl.isF, decide_eq_true_eq] at hf
      simp only [loF, ctF, if_neg hf]
      rw [if_neg (by omega), if_neg (by omega), if_neg (by omega), if_neg (by omega), if_neg (by omega), if_neg (by omega), if_neg (by omega), if_neg (by omega)]
    rw [hc]
    clear hc
    by_cases h0 : f < 0
    · clear hf
      go_enter Tryd.func29, Tryd.ntmps29
      go_wp2
      exact bodyPost_ret (v := plV 0 0) (by simp [results, Tryd.results29, go_sem, plV]) rfl ⟨rfl, ((Keeps.refl _).alloc _).alloc _⟩
    · have h8 : 8 < f := by simp only [Fl.isF, decide_eq_true_eq] at hf; omega
      clear hf
      go_enter Tryd.func29, Tryd.ntmps29
      go_wp2
      exact bodyPost_ret (v := plV 0 0) (by simp [results, Tryd.results29, go_sem, plV]) rfl ⟨rfl, ((Keeps.refl _).alloc _).alloc _⟩
end Go.Proofs.YtojihkejlmggcaaDoor
