/- The listed variable's condition, opened: what the table of ranks holds; and that the door's own heap meets it. No condition. -/
import Derived.Test.YtekbcpnclckakaaDoorRank
import Derived.Test.YtekbcpnclckakaaDoorTie
import Derived.Test.YtekbcpnclckakaaDoorCards
import Derived.ProofKit
import Derived.LaidMore
import Derived.OpenShut
import Derived.Stop.Joined
import Derived.SevenTiedAt
namespace Go.Proofs.YtekbcpnclckakaaDoor
open Go.ChangeShapes Go.WideShapes Go.ChangeAt Go.WideMaps Go.WideElems Go.RowKit

def rankLaid : List (String × DataW Unit) := [("wellspring/rank.ranks", Rows.laid_wellspring_rank_ranks)]
theorem gRanks : Tryd.prog.globalNamed "wellspring/rank.ranks" = some 0 := by kernel_rfl
theorem tRanks : (Tryd.prog.globals[0]?).map (·.type) = some 32 := by kernel_rfl

theorem doorR_met (os : Os) (args : Array Value) : laidMetH Tryd.prog rankLaid ((World.doorLaid Tryd.prog 400 os).forCall (fun _ _ => 0) ⟨#[], args, []⟩).memory :=
  laidMetH_of_parts3 (fuel := 8) (laidMet_of_run' 8 (by kernel_rfl) (by kernel_rfl)) (by kernel_rfl) (by kernel_rfl)

theorem pair_of {m : Nat} {w : World} {c0 c1 : Value} {a b : Int} {p : List MemPlace}
    (h : DataW.trod (fun _ => ()) Tryd.prog w 0 (fun _ => true) false m 22 [c0, c1] = some (.agg [.lit (.int .i64 a), .lit (.int .i64 b)], p)) : c0 = .int .i64 a ∧ c1 = .int .i64 b := by
  obtain ⟨xs, m1, _, hx, _, hl, hi⟩ := DataW.trod_array Tryd.underlying22 h
  have hc2 : Tryd.prog.cellsOf 3 = 1 := by kernel_rfl
  have h0 := hi 0 (by omega)
  have h1 := hi 1 (by omega)
  rw [List.getElem?_eq_getElem (by omega)] at h0 h1
  match xs, hl with
  | [x0, x1], _ =>
    simp [hc2] at h0 h1
    obtain ⟨n, e0, d0, _⟩ := DataW.trod_int Tryd.underlying3 h0
    obtain ⟨k, e1, d1, _⟩ := DataW.trod_int Tryd.underlying3 h1
    simp at e0 e1
    subst e0 e1
    simp [d0, d1] at hx
    obtain ⟨⟨rfl, rfl⟩, _⟩ := hx
    exact ⟨rfl, rfl⟩

theorem ofR_laid {W : World} (h : laidMetH Tryd.prog rankLaid W) : TabR W := by
  rw [MakeChecks.laidMetH_plain _ _ _ (by kernel_rfl)] at h
  obtain ⟨ps, ⟨g0, t0, cs0, f0, p0, q0, hg0, ht0, hv0, hd0, _, _⟩, _, _⟩ := h
  obtain rfl := Option.some.inj (gRanks.symm.trans hg0)
  obtain rfl := Option.some.inj (tRanks.symm.trans ht0)
  have hcell := World.var?_cell hg0 hv0
  obtain ⟨xs, m1, rfl, hx1, hlen, hn, hel⟩ := DataW.trod_array Tryd.underlying32 hd0
  have cA : Tryd.prog.cellsOf 32 = 6 := by kernel_rfl
  have cP : Tryd.prog.cellsOf 22 = 2 := by kernel_rfl
  rw [cA] at hlen
  rw [cP] at hel
  simp only [Prod.mk.injEq] at hx1
  have hm := hx1.1
  simp only [Rows.laid_wellspring_rank_ranks, DataW.agg.injEq] at hm
  have key : ∀ (i : Nat) (a b : Int), i < 3 → tabR[2 * i]? = some a → tabR[2 * i + 1]? = some b → (List.map (fun x => x.fst) xs)[i]? = some (.agg [.lit (.int .i64 a), .lit (.int .i64 b)]) → cs0[2 * i]? = some (.int .i64 a) ∧ cs0[2 * i + 1]? = some (.int .i64 b) := by
    intro i a b hi _ _ hd
    have he := hel i hi
    rw [List.getElem?_map] at hd
    rw [List.getElem?_eq_getElem (by omega)] at he hd
    simp only [Option.map_some, Option.some.injEq] at hd
    generalize xs[i] = y at *
    obtain ⟨yd, yp⟩ := y
    simp only at hd
    subst hd
    have hl2 : (List.take 2 (List.drop (i * 2) cs0.toList)).length = 2 := by simp at hlen ⊢; omega
    have g0 : cs0[2 * i]? = (List.take 2 (List.drop (i * 2) cs0.toList))[0]? := by simp [Nat.mul_comm]
    have g1 : cs0[2 * i + 1]? = (List.take 2 (List.drop (i * 2) cs0.toList))[1]? := by simp [Nat.mul_comm]
    generalize List.take 2 (List.drop (i * 2) cs0.toList) = L at *
    match L, hl2 with
    | [c0, c1], _ =>
      obtain ⟨rfl, rfl⟩ := pair_of he
      exact ⟨g0, g1⟩
  rw [← hm] at key
  intro i hi
  rw [hcell]
  have hi' : i < 6 := hi
  have k0 := key 0 3 5 (by decide) rfl rfl rfl
  have k1 := key 1 1 4 (by decide) rfl rfl rfl
  have k2 := key 2 1 2 (by decide) rfl rfl rfl
  rcases (show i = 0 ∨ i = 1 ∨ i = 2 ∨ i = 3 ∨ i = 4 ∨ i = 5 by omega) with rfl | rfl | rfl | rfl | rfl | rfl
  · exact k0.1
  · exact k0.2
  · exact k1.1
  · exact k1.2
  · exact k2.1
  · exact k2.2
end Go.Proofs.YtekbcpnclckakaaDoor
