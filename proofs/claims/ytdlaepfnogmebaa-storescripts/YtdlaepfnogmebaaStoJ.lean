/- The document's store: made anew. No condition. -/
import Derived.Test.YtdlaepfnogmebaaStoI
namespace Go.Proofs.Ytdlaepfnogmebaa
open Go.RowKit

set_option maxHeartbeats 4000000 in
set_option maxRecDepth 100000 in
theorem rNew_yes (room : Int) (w : World) (h1 : 1 ≤ room) (h2 : room ≤ 1000) :
    Calls Try.prog 13 #[.int .i64 room] w fun e w' => e = .returned (.agg #[.int .i64 room, .slice none 0 0, .int .i64 0]) ∧ Keeps w w' := by
  have g1 : ¬ room < 1 := by omega
  have g2 : ¬ 1000 < room := by omega
  have R := hide (Blk.made w #[.int .i64 0, .slice none 0 0, .int .i64 0] 29)
  have K := hide ((Keeps.refl w).alloc (.cells #[.int .i64 0, .slice none 0 0, .int .i64 0] 29))
  go_enter Try.func13, Try.ntmps13
  go_upto_region 1 with fail
  generalize w.alloc (.cells #[.int .i64 0, .slice none 0 0, .int .i64 0] 29) = W at *
  generalize hG : w.heap.size = G at R ⊢
  replace hG := hide hG
  go_upto_region 3 with fail
  have Y := hide (((R.out.set 0 (.int .i64 room)).set 1 (.slice none 0 0)).set 2 (.int .i64 0))
  simp at Y
  have K9 := hide (((K.out.setC ⟨G, 0, none⟩ (Nat.le_of_eq hG.out) (.int .i64 room)).setC ⟨G, 1, none⟩ (Nat.le_of_eq hG.out) (.slice none 0 0)).setC ⟨G, 2, none⟩ (Nat.le_of_eq hG.out) (.int .i64 0))
  obtain ⟨⟨r0, r1, r2⟩, ⟨f0, f1, f2⟩, _⟩ := R.out.three
  go_wp2_with fail
  generalize ((W.setCell ⟨G, 0, none⟩ (.int .i64 room)).setCell ⟨G, 1, none⟩ (.slice none 0 0)).setCell ⟨G, 2, none⟩ (.int .i64 0) = W9 at *
  obtain ⟨s0, s1, s2⟩ := Y.out.three.1
  exact bodyPost_ret (v := .agg #[.int .i64 room, .slice none 0 0, .int .i64 0]) (by simp [results, Try.results13, go_sem, s0, s1, s2]) rfl ⟨rfl, K9.out⟩
set_option maxHeartbeats 4000000 in
set_option maxRecDepth 100000 in
theorem rNew_low (room : Int) (w : World) (g1 : room < 1) :
    Calls Try.prog 13 #[.int .i64 room] w fun e w' => e = .returned (.agg #[.int .i64 0, .slice none 0 0, .int .i64 0]) ∧ Keeps w w' := by
  have R := hide (Blk.made w #[.int .i64 0, .slice none 0 0, .int .i64 0] 29)
  have K := hide ((Keeps.refl w).alloc (.cells #[.int .i64 0, .slice none 0 0, .int .i64 0] 29))
  go_enter Try.func13, Try.ntmps13
  go_upto_region 1 with fail
  generalize w.alloc (.cells #[.int .i64 0, .slice none 0 0, .int .i64 0] 29) = W at *
  generalize hG : w.heap.size = G at R ⊢
  replace hG := hide hG
  go_upto_region 2 with fail
  have Y := hide (((R.out.set 0 (.int .i64 0)).set 1 (.slice none 0 0)).set 2 (.int .i64 0))
  simp at Y
  have K9 := hide (((K.out.setC ⟨G, 0, none⟩ (Nat.le_of_eq hG.out) (.int .i64 0)).setC ⟨G, 1, none⟩ (Nat.le_of_eq hG.out) (.slice none 0 0)).setC ⟨G, 2, none⟩ (Nat.le_of_eq hG.out) (.int .i64 0))
  obtain ⟨⟨r0, r1, r2⟩, ⟨f0, f1, f2⟩, _⟩ := R.out.three
  go_wp2_with fail
  generalize ((W.setCell ⟨G, 0, none⟩ (.int .i64 0)).setCell ⟨G, 1, none⟩ (.slice none 0 0)).setCell ⟨G, 2, none⟩ (.int .i64 0) = W9 at *
  obtain ⟨s0, s1, s2⟩ := Y.out.three.1
  exact bodyPost_ret (v := .agg #[.int .i64 0, .slice none 0 0, .int .i64 0]) (by simp [results, Try.results13, go_sem, s0, s1, s2]) rfl ⟨rfl, K9.out⟩
set_option maxHeartbeats 4000000 in
set_option maxRecDepth 100000 in
theorem rNew_high (room : Int) (w : World) (g1 : ¬ room < 1) (g2 : 1000 < room) :
    Calls Try.prog 13 #[.int .i64 room] w fun e w' => e = .returned (.agg #[.int .i64 0, .slice none 0 0, .int .i64 0]) ∧ Keeps w w' := by
  have R := hide (Blk.made w #[.int .i64 0, .slice none 0 0, .int .i64 0] 29)
  have K := hide ((Keeps.refl w).alloc (.cells #[.int .i64 0, .slice none 0 0, .int .i64 0] 29))
  go_enter Try.func13, Try.ntmps13
  go_upto_region 1 with fail
  generalize w.alloc (.cells #[.int .i64 0, .slice none 0 0, .int .i64 0] 29) = W at *
  generalize hG : w.heap.size = G at R ⊢
  replace hG := hide hG
  go_upto_region 2 with fail
  have Y := hide (((R.out.set 0 (.int .i64 0)).set 1 (.slice none 0 0)).set 2 (.int .i64 0))
  simp at Y
  have K9 := hide (((K.out.setC ⟨G, 0, none⟩ (Nat.le_of_eq hG.out) (.int .i64 0)).setC ⟨G, 1, none⟩ (Nat.le_of_eq hG.out) (.slice none 0 0)).setC ⟨G, 2, none⟩ (Nat.le_of_eq hG.out) (.int .i64 0))
  obtain ⟨⟨r0, r1, r2⟩, ⟨f0, f1, f2⟩, _⟩ := R.out.three
  go_wp2_with fail
  generalize ((W.setCell ⟨G, 0, none⟩ (.int .i64 0)).setCell ⟨G, 1, none⟩ (.slice none 0 0)).setCell ⟨G, 2, none⟩ (.int .i64 0) = W9 at *
  obtain ⟨s0, s1, s2⟩ := Y.out.three.1
  exact bodyPost_ret (v := .agg #[.int .i64 0, .slice none 0 0, .int .i64 0]) (by simp [results, Try.results13, go_sem, s0, s1, s2]) rfl ⟨rfl, K9.out⟩
end Go.Proofs.Ytdlaepfnogmebaa
