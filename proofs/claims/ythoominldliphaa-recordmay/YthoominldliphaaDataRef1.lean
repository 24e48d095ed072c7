/- What the document's shape, texts, Expand, Check of layer 5 answer. -/
import Derived.Test.YthoominldliphaaDataWalk5
import Derived.Test.YthoominldliphaaCompRef1
namespace Go.Proofs.Ythoominldliphaa
open Go.RowKit

def shR (s : Dt.Sh) : Value := .agg #[.int .i64 s.a, .int .i64 s.n, .int .i64 s.b]
def shOf (k : Int) : Dt.Sh := (Dt.shp k).getD ⟨0, 0, 0⟩

set_option maxHeartbeats 2000000 in
theorem refshape_any (k : Int) (w : World) :
    Calls Try.prog 43 #[.int .i64 k] w fun e w' => e = .returned (shR (shOf k)) ∧ Keeps w w' := by
  by_cases hm : k ∈ [1, 2, 5, 6, 12, 15, 28, 33]
  · simp only [List.mem_cons, List.not_mem_nil, or_false] at hm
    rcases hm with rfl | rfl | rfl | rfl | rfl | rfl | rfl | rfl
    all_goals
      go_enter Try.func43, Try.ntmps43
      go_wp2
    · exact bodyPost_ret (v := shR (shOf 1)) (by simp [results, Try.results43, go_sem, shR, shOf, Dt.shp]) rfl ⟨rfl, (Keeps.refl _).alloc _⟩
    · exact bodyPost_ret (v := shR (shOf 2)) (by simp [results, Try.results43, go_sem, shR, shOf, Dt.shp]) rfl ⟨rfl, (Keeps.refl _).alloc _⟩
    · exact bodyPost_ret (v := shR (shOf 5)) (by simp [results, Try.results43, go_sem, shR, shOf, Dt.shp]) rfl ⟨rfl, (Keeps.refl _).alloc _⟩
    · exact bodyPost_ret (v := shR (shOf 6)) (by simp [results, Try.results43, go_sem, shR, shOf, Dt.shp]) rfl ⟨rfl, (Keeps.refl _).alloc _⟩
    · exact bodyPost_ret (v := shR (shOf 12)) (by simp [results, Try.results43, go_sem, shR, shOf, Dt.shp]) rfl ⟨rfl, (Keeps.refl _).alloc _⟩
    · exact bodyPost_ret (v := shR (shOf 15)) (by simp [results, Try.results43, go_sem, shR, shOf, Dt.shp]) rfl ⟨rfl, (Keeps.refl _).alloc _⟩
    · exact bodyPost_ret (v := shR (shOf 28)) (by simp [results, Try.results43, go_sem, shR, shOf, Dt.shp]) rfl ⟨rfl, (Keeps.refl _).alloc _⟩
    · exact bodyPost_ret (v := shR (shOf 33)) (by simp [results, Try.results43, go_sem, shR, shOf, Dt.shp]) rfl ⟨rfl, (Keeps.refl _).alloc _⟩
  · simp only [List.mem_cons, List.not_mem_nil, or_false, not_or] at hm
    obtain ⟨h1, h2, h3, h4, h5, h6, h8, h9⟩ := hm
    have HS : Hid (shOf k = ⟨0, 0, 0⟩) := by simp [Hid, shOf, Dt.shp, h1, h2, h3, h4, h5, h6, h8, h9]
    replace h1 : (k == 1) = false := beq_eq_false_iff_ne.2 h1
    replace h2 : (k == 2) = false := beq_eq_false_iff_ne.2 h2
    replace h3 : (k == 5) = false := beq_eq_false_iff_ne.2 h3
    replace h4 : (k == 6) = false := beq_eq_false_iff_ne.2 h4
    replace h5 : (k == 12) = false := beq_eq_false_iff_ne.2 h5
    replace h6 : (k == 15) = false := beq_eq_false_iff_ne.2 h6
    replace h8 : (k == 28) = false := beq_eq_false_iff_ne.2 h8
    replace h9 : (k == 33) = false := beq_eq_false_iff_ne.2 h9
    go_enter Try.func43, Try.ntmps43
    go_wp2
    exact bodyPost_ret (v := shR ⟨0, 0, 0⟩) (by simp [results, Try.results43, go_sem, shR]) rfl ⟨by rw [HS.out], (Keeps.refl _).alloc _⟩

set_option maxHeartbeats 800000 in
theorem reftexts_any (n : ByteArray) (w : World) (hn : n.size ≤ 1000000) :
    Calls Try.prog 44 #[.string n] w fun e w' => e = .returned (.bool (Dt.textsB (bl n))) ∧ w' = w := by
  go_enter Try.func44, Try.ntmps44
  go_wp2
  go_loop [3] (fun i => ∃ p : Nat, p ≤ n.size + 256 ∧ i = .int .i64 p ∧ Dt.txm (bl n) 0 = Dt.txm (bl n) p) (fun i => n.size + 256 - (intOf i).toNat)
  case atStart => exact ⟨0, by omega, rfl, rfl⟩
  case round =>
    obtain ⟨p, hp, rfl, htx⟩ := hrel
    have HT := hide htx
    clear htx
    by_cases hlt : p < n.size
    · have hc := UInt8.toNat_lt n[p]
      have HS := hide (Dt.txm_step (bl_at? n p hlt))
      go_wp2
      go_round
      case rel => exact ⟨p + (1 + n[p].toNat), by omega, by refine congrArg _ ?_; omega, by rw [HT.out, HS.out]⟩
      case measure => simp [intOf]; omega
    · have HE := hide (Dt.txm_end (l := bl n) (p := p) (by rw [bl_length]; omega))
      have HF := hide (textsB_end n p (by rw [HT.out, HE.out]))
      by_cases h0 : (p : Int) = (n.size : Int)
      · have h1 : ((p : Int) == (n.size : Int)) = true := beq_iff_eq.2 h0
        clear h0
        go_wp2
        go_ret
        exact ⟨ret_bool (by rw [HF.out, h1, Bool.and_true]; exact decide_eq_decide.2 (by omega)), rfl⟩
      · have h1 : ((p : Int) == (n.size : Int)) = false := beq_eq_false_iff_ne.2 h0
        clear h0
        go_wp2
        go_ret
        exact ⟨ret_bool (by rw [HF.out, h1, Bool.and_false]), rfl⟩
end Go.Proofs.Ythoominldliphaa
