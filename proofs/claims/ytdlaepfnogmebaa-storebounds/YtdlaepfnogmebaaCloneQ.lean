/- slices.Clone of []int. No condition but lengths. slices.Clone of []string. No condition but lengths. slices.Clone of []api.Question. No condition but lengths. -/
import Derived.Test.YtdlaepfnogmebaaLruR
import Derived.Laws.Cover3
namespace Go.Proofs.Ytdlaepfnogmebaa
open Go.RowKit

end Go.Proofs.Ytdlaepfnogmebaa

namespace Go.Proofs.Ytdlaepfnogmebaa
open Go.RowKit

set_option maxHeartbeats 4000000 in
set_option maxRecDepth 100000 in
theorem Clone_t (v : Value) (rows : List (List Value)) (w : World) (hv : ReadRow w v 1 rows) (hc : ∀ r ∈ rows, r.length = 1) (h1 : ∀ r ∈ rows, ∀ u ∈ r, u.oneCell' = true) (hl : rows.length ≤ 1000000) :
    Calls Try.prog 115 #[v] w fun e w' => REnd w 9 1 rows e w' := by
  obtain ⟨a, cap, rfl⟩ := hv.len
  have HQ : ∀ (W : World) (a : Option Addr) (n c : Nat), (binOp .eql 33 (.slice a n c) (.slice none 0 0)).run Try.prog W = .ok (.bool a.isNone) W := fun W a n c => by
    simp only [binOp]
    simp [run_equal_slice_nil W _ _ a n c Try.underlying33]
  cases a with
  | none =>
    have h0 : rows = [] := by
      cases rows with
      | nil => rfl
      | cons r rows =>
        obtain ⟨b, off, h, _⟩ := hv.parts (by simp)
        cases h
    subst h0
    go_enter Try.func115, Try.ntmps115
    go_wp2
    go_ret
    exact REnd.mk (OwnsR.nil _ _ _ _) (Keeps.refl _)
  | some ad =>
    have RD := hide hv
    have OW := hide (show OwnsR (w.alloc (.cells #[] 9)) w.heap.size 9 1 (.slice (some ⟨w.heap.size, 0, none⟩) 0 0) [] from ⟨World.ownsRow_lit w #[] 0 (Nat.le_refl _) (by decide) rfl, by simp⟩)
    clear hv
    go_enter Try.func115, Try.ntmps115
    go_wp2_with (at_builtin; refine wpList_appRs 9 33 1 16 (.string ⟨#[]⟩) _ Try.underlying33 Try.infoStr rfl (by decide) rfl _ _ rfl w.heap.size _ _ rfl OW.out _ rfl rows (RD.out.keeps ((Keeps.refl w).alloc _)) hc h1 ?c2 ?c3 ?c4 ?_)
    case c2 => unfold maxLen; simp; omega
    case c3 => simp; omega
    case c4 => exact ((Keeps.refl w).alloc _).size
    intro v' w5 hown5 hb5 _
    have K5 := hide (show Keeps w w5 from Below.trans ((Keeps.refl w).alloc _) hb5)
    replace hown5 := hide hown5
    clear hb5 OW RD
    go_wp2
    go_ret
    exact REnd.mk hown5.out K5.out
end Go.Proofs.Ytdlaepfnogmebaa

namespace Go.Proofs.Ytdlaepfnogmebaa
open Go.RowKit

set_option maxHeartbeats 4000000 in
set_option maxRecDepth 100000 in
theorem Clone_q (v : Value) (rows : List (List Value)) (w : World) (hv : ReadRow w v 3 rows) (hc : ∀ r ∈ rows, r.length = 3) (h1 : ∀ r ∈ rows, ∀ u ∈ r, u.oneCell' = true) (hl : rows.length ≤ 1000000) :
    Calls Try.prog 81 #[v] w fun e w' => REnd w 32 3 rows e w' := by
  obtain ⟨a, cap, rfl⟩ := hv.len
  have HQ : ∀ (W : World) (a : Option Addr) (n c : Nat), (binOp .eql 57 (.slice a n c) (.slice none 0 0)).run Try.prog W = .ok (.bool a.isNone) W := fun W a n c => by
    simp only [binOp]
    simp [run_equal_slice_nil W _ _ a n c Try.underlying57]
  cases a with
  | none =>
    have h0 : rows = [] := by
      cases rows with
      | nil => rfl
      | cons r rows =>
        obtain ⟨b, off, h, _⟩ := hv.parts (by simp)
        cases h
    subst h0
    go_enter Try.func81, Try.ntmps81
    go_wp2
    go_ret
    exact REnd.mk (OwnsR.nil _ _ _ _) (Keeps.refl _)
  | some ad =>
    have RD := hide hv
    have OW := hide (show OwnsR (w.alloc (.cells #[] 32)) w.heap.size 32 3 (.slice (some ⟨w.heap.size, 0, none⟩) 0 0) [] from ⟨World.ownsRow_lit w #[] 0 (Nat.le_refl _) (by decide) rfl, by simp⟩)
    clear hv
    go_enter Try.func81, Try.ntmps81
    go_wp2_with (at_builtin; refine wpList_appRs 32 57 3 32 (qnV noQn) _ Try.underlying57 Try.infoQ rfl (by decide) rfl _ _ rfl w.heap.size _ _ rfl OW.out _ rfl rows (RD.out.keeps ((Keeps.refl w).alloc _)) hc h1 ?c2 ?c3 ?c4 ?_)
    case c2 => unfold maxLen; simp; omega
    case c3 => simp; omega
    case c4 => exact ((Keeps.refl w).alloc _).size
    intro v' w5 hown5 hb5 _
    have K5 := hide (show Keeps w w5 from Below.trans ((Keeps.refl w).alloc _) hb5)
    replace hown5 := hide hown5
    clear hb5 OW RD
    go_wp2
    go_ret
    exact REnd.mk hown5.out K5.out
end Go.Proofs.Ytdlaepfnogmebaa
