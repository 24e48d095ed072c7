/- How a slice of texts that comes in reads. No condition. -/
import Derived.Test.YtafkpdjcfokgbaaBase
import Derived.SliceStrings
import Derived.ProofKit
namespace Go.Proofs.Ytafkpdjcfokgbaa
open Go.ChangeShapes Go.WideShapes Go.ChangeAt Go.RowKit

theorem open_strs {H : Type} {enc : TypeId × Value → H} {P : Program} {w : World} {held : Bool} {t e : TypeId} {v : Value} {r : Reach} {b0 : Nat} {d : DataW H} {p : List MemPlace}
    (hs : P.underlying t = some (.slice e)) (he : P.underlying e = some .string) (hC : P.cellsOf e = 1)
    (hv : Value.okWide P w r b0 t v) (h : DataW.Trod enc P w 0 (fun _ => true) held t v d p) : ∃ ls, IsStrs w v ls := by
  obtain ⟨a, n, c, rfl⟩ := okWide_slice hs hv
  obtain ⟨fuel, hf⟩ := h
  rcases open_strings hs he hC hf with ⟨hcs, _⟩ | ⟨x, len, cap, ss, hcs, _, hl, hm, hz, _, hcell, hws⟩
  · simp [Value.cells] at hcs
    obtain ⟨rfl, rfl, rfl⟩ := hcs
    exact ⟨[], ReadS.none, by simp, fun x hx => by simp at hx⟩
  · simp [Value.cells] at hcs
    obtain ⟨rfl, rfl, rfl⟩ := hcs
    have hz' : ss.length = c := by simpa using hz
    refine ⟨(ss.take n).map (fun s => s.data.toList), ?_, by simp; omega, ?_⟩
    · have hln : ((ss.take n).map (fun s => s.data.toList)).length = n := by simp; omega
      refine ⟨some x, c, by rw [hln], by omega, fun i hi => ⟨x, rfl, ?_⟩⟩
      rw [hln] at hi
      rw [hcell i (by omega)]
      have hi' : i < ss.length := by omega
      simp [sv, hi']
    · intro y hy
      obtain ⟨s, hs', rfl⟩ := List.mem_map.1 hy
      have := hws s (List.mem_of_mem_take hs')
      simpa using this
end Go.Proofs.Ytafkpdjcfokgbaa
