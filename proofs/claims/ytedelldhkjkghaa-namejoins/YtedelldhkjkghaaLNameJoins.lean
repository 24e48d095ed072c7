/- NameJoins answers true, for every input: the walk. -/
import Derived.Test.YtedelldhkjkghaaNameLive
namespace Go.Proofs.Ytedelldhkjkghaa
open Go.RowKit

set_option maxHeartbeats 800000 in
theorem joins_some (b off cap : Nat) (ls : List (List UInt8)) (w : World) (hc : ∀ i (h : i < ls.length), w.cell? ⟨b, off + i, none⟩ = some (sv ls[i])) (hcap : ls.length ≤ cap) (h0 : 0 < ls.length) (hl : ls.length ≤ maxLen) (hs : ∀ x ∈ ls, x.length ≤ maxLen) :
    Calls Try.prog 4 #[.slice (some ⟨b, off, none⟩) ls.length cap] w fun e w' => e = .returned (.bool true) ∧ Keeps w w' := by
  unfold maxLen at hl
  have HC := hide hc
  have HS := hide hs
  have HR := hide (ReadS.mk (w := w) (b := b) (off := off) rfl hc hcap)
  clear hc hs
  go_enter Try.func4, Try.ntmps4
  go_wp2
  go_loop [3] (fun i => ∃ j : Nat, j ≤ ls.length ∧ i = .int .i64 j ∧ (0 < j → ls.length ≤ 200)) (fun i => ls.length - (intOf i).toNat)
  case atStart => exact ⟨0, Nat.zero_le _, rfl, fun h => by omega⟩
  case round =>
    obtain ⟨j, hj, rfl, h200⟩ := hrel
    by_cases hlt : j < ls.length
    · obtain ⟨X, hX⟩ : ∃ X : ByteArray, bl X = ls[j] := ⟨⟨ls[j].toArray⟩, bl_mk _⟩
      have hcell : w.cell? ⟨b, off + j, none⟩ = some (.string X) := by
        rw [← sv_bl, hX]
        exact HC.out j hlt
      have hXm : X.size ≤ maxLen := by rw [← bl_length, hX]; exact HS.out ls[j] (List.getElem_mem hlt)
      unfold maxLen at hXm
      clear hX
      by_cases h300 : (300 : Int) < X.size
      · go_wp2_with (go_at_call 10; refine (live2_any _).mono ?_; rintro e w3 ⟨rfl, k3⟩)
        go_ret
        exact ⟨rfl, by assumption⟩
      · by_cases hbig : (200 : Int) < ls.length
        · go_wp2_with (go_at_call 10; refine (live2_any _).mono ?_; rintro e w3 ⟨rfl, k3⟩)
          go_ret
          exact ⟨rfl, by assumption⟩
        · go_wp2
          go_round
          case rel => exact ⟨j + 1, by omega, by go_num, fun _ => by omega⟩
          case measure => simp [intOf]; omega
    · have hle : ls.length ≤ 200 := h200 (by omega)
      clear h200
      go_wp2_with fail
      refine (join_any _ ls _ HR.out (by omega) HS.out).mono ?_
      rintro e w1 ⟨rfl, k1⟩
      go_wp2_with fail
      refine (refjoin_any _ ls _ (HR.out.keeps k1) (by omega) HS.out).mono ?_
      rintro e w2 ⟨rfl, k2⟩
      go_wp2_with fail
      refine (live2_any _).mono ?_
      rintro e w3 ⟨rfl, k3⟩
      go_wp2
      go_ret
      exact ⟨rfl, (k1.trans k2).trans k3⟩
theorem joins_nil (a : Option Addr) (cap : Nat) (w : World) :
    Calls Try.prog 4 #[.slice a 0 cap] w fun e w' => e = .returned (.bool true) ∧ Keeps w w' := by
  go_enter Try.func4, Try.ntmps4
  go_wp2
  refine wp_loop_rounds 1 ?_
  rw [rounds_succ]
  go_wp2_with fail
  refine (join_any _ [] _ ReadS.none (by simp) (fun x hx => by simp at hx)).mono ?_
  rintro e w1 ⟨rfl, k1⟩
  go_wp2_with fail
  refine (refjoin_any _ [] _ ReadS.none (by simp) (fun x hx => by simp at hx)).mono ?_
  rintro e w2 ⟨rfl, k2⟩
  go_wp2_with fail
  refine (live2_any _).mono ?_
  rintro e w3 ⟨rfl, k3⟩
  go_wp2
  go_ret
  exact ⟨rfl, (k1.trans k2).trans k3⟩
theorem NameJoins_walk (v : Value) (ls : List (List UInt8)) (w : World) (h : IsStrs w v ls) :
    Calls Try.prog 4 #[v] w fun e w' => e = .returned (.bool true) ∧ Keeps w w' := by
  obtain ⟨hr, hl, hs⟩ := h
  by_cases h0 : 0 < ls.length
  · obtain ⟨b, off, cap, rfl, _, hc, hcap⟩ := hr.parts h0
    exact joins_some b off cap ls w hc hcap h0 hl hs
  · obtain ⟨a, cap, rfl⟩ := hr.len
    obtain rfl : ls = [] := List.length_eq_zero_iff.1 (by omega)
    exact joins_nil a cap w
end Go.Proofs.Ytedelldhkjkghaa
