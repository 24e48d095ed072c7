/- What areTexts and shapes of layer 5 answer, for every input. -/
import Derived.Test.YthoominldliphaaDataMath
import Derived.Test.YthoominldliphaaCompWalk1
import Derived.Test.YthoominldliphaaStrs
namespace Go.Proofs.Ythoominldliphaa
open Go.RowKit

theorem bl_at? (s : ByteArray) (p : Nat) (h : p < s.size) : (bl s)[p]? = some s[p] := by
  rw [List.getElem?_eq_getElem (by rw [bl_length]; exact h)]; rfl

theorem textsB_end (n : ByteArray) (p : Nat) (h : Dt.txm (bl n) 0 = p) : Dt.textsB (bl n) = (decide (0 < (p : Int)) && ((p : Int) == (n.size : Int))) := by
  rw [Bool.eq_iff_iff]
  simp only [Dt.textsB, h, bl_length, Bool.and_eq_true, decide_eq_true_eq, beq_iff_eq]
  omega

set_option maxHeartbeats 800000 in
theorem areTexts_any (n : ByteArray) (w : World) (hn : n.size ≤ 1000000) :
    Calls Try.prog 52 #[.string n] w fun e w' => e = .returned (.bool (Dt.textsB (bl n))) ∧ w' = w := by
  go_enter Try.func52, Try.ntmps52
  go_wp2
  go_loop [3] (fun i => ∃ p : Nat, p ≤ n.size + 256 ∧ i = .int .i64 p ∧ Dt.txm (bl n) 0 = Dt.txm (bl n) p) (fun i => n.size + 256 - (intOf i).toNat)
  case atStart => exact ⟨0, by omega, rfl, rfl⟩
  case round =>
    obtain ⟨p, hp, rfl, htx⟩ := hrel
    have HT := hide htx
    clear htx
    by_cases hlt : p < n.size
    · have hc := UInt8.toNat_lt n[p]
      have HS := hide (Dt.txm_step (bl_at? n p hlt))
      go_wp2
      go_round
      case rel => exact ⟨p + (1 + n[p].toNat), by omega, by go_num, by rw [HT.out, HS.out]⟩
      case measure => simp [intOf]; omega
    · have HE := hide (Dt.txm_end (l := bl n) (p := p) (by rw [bl_length]; omega))
      have HF := hide (textsB_end n p (by rw [HT.out, HE.out]))
      by_cases h0 : (0 : Int) < (p : Int)
      · go_wp2
        go_ret
        exact ⟨ret_bool (by rw [HF.out, decide_eq_true h0, Bool.true_and]), rfl⟩
      · go_wp2
        go_ret
        exact ⟨ret_bool (by rw [HF.out, decide_eq_false (by omega), Bool.false_and]), rfl⟩

/-- A shape as a value. -/
def shV (s : Dt.Sh) (t : Bool) : Value := .agg #[.int .i64 s.a, .int .i64 s.n, .int .i64 s.b, .bool t]
def shEs : Array MapEntry := #[⟨.int .i64 1, shV ⟨4, 0, 0⟩ false, 0⟩, ⟨.int .i64 2, shV ⟨0, 1, 0⟩ false, 1⟩, ⟨.int .i64 5, shV ⟨0, 1, 0⟩ false, 2⟩, ⟨.int .i64 6, shV ⟨0, 2, 20⟩ false, 3⟩,
  ⟨.int .i64 12, shV ⟨0, 1, 0⟩ false, 4⟩, ⟨.int .i64 15, shV ⟨2, 1, 0⟩ false, 5⟩, ⟨.int .i64 16, shV ⟨0, 0, 0⟩ true, 6⟩, ⟨.int .i64 28, shV ⟨16, 0, 0⟩ false, 7⟩, ⟨.int .i64 33, shV ⟨6, 1, 0⟩ false, 8⟩]

theorem heap_alloc_at (w : World) (o : Obj) : (w.alloc o).heap[w.heap.size]? = some o := heap_alloc_new w o
theorem set_alloc (w : World) (o o' : Obj) : ({ (w.alloc o) with heap := (w.alloc o).heap.setIfInBounds w.heap.size o' } : World) = w.alloc o' := by
  have e : (w.heap.push o).setIfInBounds w.heap.size o' = w.heap.push o' := by
    rw [← Array.toList_inj, Array.toList_setIfInBounds, Array.toList_push, Array.toList_push, show w.heap.size = w.heap.toList.length from by simp, List.set_append_right _ _ (Nat.le_refl _), Nat.sub_self]
    rfl
  show ({ w with heap := (w.heap.push o).setIfInBounds w.heap.size o' } : World) = { w with heap := w.heap.push o' }
  rw [e]
theorem run_put (w : World) (es : Array MapEntry) (c : Nat) (k : Int) (v : Value) (h : Instr.findNow (.int .i64) (.int .i64 k) es.toList 0 = some none) :
    (Instr.mapUpdate 77 (.map (some w.heap.size)) (.int .i64 k) v).run Try.prog (w.alloc (.map es c)) = .ok () (w.alloc (.map (es.push ⟨.int .i64 k, v, c⟩) (c + 1))) := by
  have hb := heap_alloc_at w (.map es c)
  have hk : MapKept.IsKey (.int .i64) (.int .i64 k) := rfl
  simp [Instr.mapUpdate, run_underlying Try.underlying77, MapKept.run_getObj_map hb, MapKept.run_checkKey Try.underlying3 hk, MapKept.run_findKey Try.underlying3 h, MapKept.run_setObj_map _ hb, Result.andThen]
  exact set_alloc w _ _
set_option maxHeartbeats 800000 in
theorem shapes_any (w : World) :
    Calls Try.prog 50 #[] w fun e w' => e = .returned (.map (some w.heap.size)) ∧ w' = w.alloc (.map shEs 9) := by
  have hmm := @run_makeMap Try.prog
  go_enter Try.func50, Try.ntmps50
  go_wp2_with fail
  repeat (rw [run_put _ _ _ _ _ (by rfl)]; go_wp2_with fail)
  go_ret
  exact ⟨rfl, rfl⟩
end Go.Proofs.Ythoominldliphaa
