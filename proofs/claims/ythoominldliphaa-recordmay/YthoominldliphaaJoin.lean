/- What strings.Join of Go's library answers where nothing is laid between the texts: the library's own contract, at this program. No condition. -/
import Derived.Shelf.Strings.OnBuilder
import Derived.Test.YthoominldliphaaRows
import Derived.Test.YthoominldliphaaStrs
import Derived.Test.YthoominldliphaaNameWalk1
namespace Go.Proofs.Ythoominldliphaa
open Go.Shelf Go.RowKit

def Try.lays156_ren : Go.Shelf.Ren := ⟨fun | 156 => 53 | 165 => 57 | 166 => 58 | 169 => 59 | 240 => 62 | 241 => 63 | 276 => 64 | 277 => 65 | n => n, fun | 31 => 54 | 9 => 9 | 3 => 3 | 4 => 4 | 0 => 0 | 20 => 20 | 72 => 84 | 76 => 88 | 70 => 82 | 37 => 58 | 75 => 87 | 127 => 91 | 164 => 92 | 5 => 5 | 80 => 66 | n => n, fun | n => n⟩
theorem Try.lays156 : Go.Proofs.Lays.n156 Try.prog Try.lays156_ren := {
  mixed := by kernel_rfl
  f156 := Try.func53.trans (congrArg some (by kernel_rfl))
  f165 := Try.func57.trans (congrArg some (by kernel_rfl))
  f166 := Try.func58.trans (congrArg some (by kernel_rfl))
  f169 := Try.func59.trans (congrArg some (by kernel_rfl))
  f240 := Try.func62.trans (congrArg some (by kernel_rfl))
  f241 := Try.func63.trans (congrArg some (by kernel_rfl))
  f276 := Try.func64.trans (congrArg some (by kernel_rfl))
  f277 := Try.func65.trans (congrArg some (by kernel_rfl))
  t0 := Try.underlying0
  a0 := Try.isAgg0
  z0 := Try.sizeOf0
  v0 := Try.zeroValue0
  t3 := Try.underlying3
  a3 := Try.isAgg3
  z3 := Try.sizeOf3
  v3 := Try.zeroValue3
  t4 := Try.underlying4
  a4 := Try.isAgg4
  z4 := Try.sizeOf4
  v4 := Try.zeroValue4
  t9 := Try.underlying9
  a9 := Try.isAgg9
  z9 := Try.sizeOf9
  v9 := Try.zeroValue9
  t20 := Try.underlying20
  a20 := Try.isAgg20
  z20 := Try.sizeOf20
  v20 := Try.zeroValue20
  t31 := Try.underlying54
  a31 := Try.isAgg54
  z31 := Try.sizeOf54
  v31 := Try.zeroValue54
  t37 := Try.underlying58
  a37 := Try.isAgg58
  z37 := Try.sizeOf58
  v37 := Try.zeroValue58
  t70 := Try.underlying82
  a70 := Try.isAgg82
  z70 := Try.sizeOf82
  v70 := Try.zeroValue82
  t72 := Try.underlying84
  a72 := Try.isAgg84
  z72 := Try.sizeOf84
  v72 := Try.zeroValue84
  t75 := Try.underlying87
  a75 := Try.isAgg87
  z75 := Try.sizeOf87
  v75 := Try.zeroValue87
  t76 := Try.underlying88
  a76 := Try.isAgg88
  z76 := Try.sizeOf88
  v76 := Try.zeroValue88
  t127 := Try.underlying91
  a127 := Try.isAgg91
  z127 := Try.sizeOf91
  v127 := Try.zeroValue91
  t164 := Try.underlying92
  a164 := Try.isAgg92
  z164 := Try.sizeOf92
  v164 := Try.zeroValue92 }
theorem Try.Builder_Extra_156 : Builder.Extra Try.prog Try.lays156_ren := {
  sizeBuilder := by kernel_rfl
  liesBuilder := by kernel_rfl
  t5 := Try.underlying5
  a5 := Try.isAgg5
  z5 := Try.sizeOf5
  v5 := Try.zeroValue5
  infoByte := by kernel_rfl
  cellsByte := by kernel_rfl
  sizeByte := by kernel_rfl
  neB5 := by decide }

theorem join_flat (xs : List (List UInt8)) : Lib.join xs [] = xs.flatten := by
  cases xs with
  | nil => rfl
  | cons x r =>
    rw [Lib.join_cons, Lib.joinTail]
    simp
theorem strings_join (v : Value) (ns : List (List UInt8)) (w : World) (h : ReadS w v ns) (hn : ns.length ≤ 1000000) (hl : ns.flatten.length ≤ 140737488355328) :
    Calls Try.prog 53 #[v, .string ⟨#[]⟩] w fun e w' => e = .returned (.string ⟨ns.flatten.toArray⟩) ∧ Keeps w w' := by
  rcases Nat.eq_zero_or_pos ns.length with h0 | h0
  · have : ns = [] := List.length_eq_zero_iff.1 h0
    subst this
    obtain ⟨a, cap, rfl, _, _⟩ := h
    exact (Any.strings_Join_none Try.lays156 Try.Builder_Extra_156 a cap ⟨#[]⟩ w).mono fun e w' ⟨he, hw⟩ => ⟨he, hw ▸ Keeps.refl _⟩
  · obtain ⟨b, off, cap, rfl, hb, hc, hle⟩ := ReadS.parts h h0
    have e1 : (ns.map fun x => (⟨x.toArray⟩ : ByteArray)).map (·.data.toList) = ns := by
      rw [List.map_map]
      conv => rhs; rw [← List.map_id ns]
      refine List.map_congr_left fun x _ => ?_
      simp
    have e2 : Lib.join ((ns.map fun x => (⟨x.toArray⟩ : ByteArray)).map (·.data.toList)) (⟨#[]⟩ : ByteArray).data.toList = ns.flatten := by rw [e1]; exact join_flat ns
    have := Any.strings_Join Try.lays156 Try.Builder_Extra_156 b off cap (ns.map fun x => (⟨x.toArray⟩ : ByteArray)) ⟨#[]⟩ w
      (fun j x hx => by
        rw [List.getElem?_map, Option.map_eq_some_iff] at hx
        obtain ⟨y, hy, rfl⟩ := hx
        obtain ⟨hj, rfl⟩ := List.getElem?_eq_some_iff.1 hy
        exact hc j hj)
      hb (by rw [List.length_map]; omega) (by rw [List.length_map]; exact hle) (by rw [e2]; exact hl)
    rw [e2, List.length_map] at this
    exact this
end Go.Proofs.Ythoominldliphaa
