/- The letters of what is decoded again: letters. The condition: names, and lengths. -/
import Derived.Test.YtcohceggooockaaMsgO1
import Derived.Test.YtcohceggooockaaMsgW2
namespace Go.Proofs.Ytcohceggooockaa
open Go.RowKit

/-- A record whose name's longest end that base has, too, is as it is there. -/
def endR (base : ByteArray) (r : Rec) : Rec := ⟨⟨(Cm.endW (bl base) (bl r.n)).toArray⟩, r.t, r.c, r.l, r.d⟩
def RowsEnd8 (w : World) (l : List Rec) (e : Ending) (w' : World) : Prop := ∃ v, e = .returned v ∧ OwnsR w' w.heap.size 44 5 v (l.map recL8) ∧ Keeps w w'
theorem RowsEnd8.mk {w w' : World} {l : List Rec} {v : Value} (h : OwnsR w' w.heap.size 44 5 v (l.map recL8)) (k : Keeps w w') : RowsEnd8 w l (.returned v) w' := ⟨v, rfl, h, k⟩
def Let8 (w : World) (base : ByteArray) (l : List Rec) (v i : Value) (wr : World) : Prop :=
  ∃ j : Nat, j ≤ l.length ∧ i = .int .i64 j ∧ OwnsR wr w.heap.size 44 5 v (((l.take j).map (endR base)).map recL8) ∧ Keeps w wr
theorem let8_step (base : ByteArray) (l : List Rec) (j : Nat) (hj : j < l.length) : ((l.take (j + 1)).map (endR base)).map recL8 = ((l.take j).map (endR base)).map recL8 ++ [recL8 (endR base l[j])] := by
  rw [List.take_succ_eq_append_getElem hj, List.map_append, List.map_append]
  rfl
theorem ones8 (r : Rec) : ∀ u ∈ recL8 r, u.oneCell' = true := by
  intro u hu
  simp only [recL8, List.mem_cons, List.not_mem_nil, or_false] at hu
  rcases hu with rfl | rfl | rfl | rfl | rfl <;> rfl

set_option maxHeartbeats 4000000 in
set_option maxRecDepth 100000 in
theorem letters8_any (v : Value) (base : ByteArray) (l : List Rec) (w : World) (hv : ReadRow w v 5 (l.map recL8)) (hb : Nm.okL (bl base) = true) (hl : l.length ≤ 1000000) (hn : ∀ r ∈ l, Nm.okL (bl r.n) = true) :
    Calls Try.prog 51 #[v, .string base] w fun e w' => RowsEnd8 w (l.map (endR base)) e w' := by
  obtain ⟨a, cap, h1⟩ := hv.len
  rw [List.length_map] at h1
  subst h1
  have RD := hide hv
  have HN := hide hn
  replace hb := hide hb
  clear hv hn
  go_enter Try.func51, Try.ntmps51
  go_wp2_with fail
  go_loopw [5, 6] (fun v i wr => Let8 w base l v i wr) (fun _ i _ => l.length - (intOf i).toNat)
  case atStart => exact ⟨0, by omega, rfl, by simpa using OwnsR.nil _ _ _ _, Keeps.refl _⟩
  case round =>
    obtain ⟨j, hj, rfl, hown, K1⟩ := hrel
    replace hown := hide hown
    replace K1 := hide K1
    by_cases hlt : j < l.length
    · have i2 : (j : Int) < (l.length : Int) := by omega
      have i0 : (0 : Int) ≤ (j : Int) := by omega
      have hv2 := RD.out.keeps K1.out
      obtain ⟨b, off, rfl, _, _⟩ := hv2.parts (by rw [List.length_map]; omega)
      obtain ⟨c0, c1, c2, c3, c4⟩ := row5 hv2 hlt
      have hnx := HN.out _ (List.getElem_mem hlt)
      have HST := let8_step base l j hlt
      generalize hoo : off + j * 5 = o at *
      generalize l[j] = r at *
      have HL := fun W => ending_any r.n base W hnx hb.out
      rw [endR] at HST
      replace HST := hide HST
      generalize (⟨(Cm.endW (bl base) (bl r.n)).toArray⟩ : ByteArray) = NM at *
      replace HL := hide HL
      have Kr := hide ((Keeps.refl wr).alloc (.cells #[.string r.n, .int .i64 r.t, .int .i64 r.c, .int .i64 r.l, .string r.d] 44))
      have Br := hide (Blk.made wr #[.string r.n, .int .i64 r.t, .int .i64 r.c, .int .i64 r.l, .string r.d] 44)
      have hGr : Hid (∃ G, wr.heap.size = G ∧ wr.heap.size ≤ G) := ⟨_, rfl, Nat.le_refl _⟩
      clear hv2 hnx
      go_upto_region 6 with fail
      clear c0 c1 c2 c3 c4
      generalize wr.alloc (.cells #[.string r.n, .int .i64 r.t, .int .i64 r.c, .int .i64 r.l, .string r.d] 44) = W1 at *
      obtain ⟨Gr, hGe, hGl⟩ := hGr.out
      rw [hGe] at Br ⊢
      replace hGl := hide hGl
      clear hGr hGe
      have b0 := Br.out.cell 0
      simp only [List.getElem?_toArray, List.getElem?_cons_zero] at b0
      go_wp2_with fail
      refine (HL.out _).mono ?_
      rintro e w3 ⟨rfl, k1⟩
      replace Kr := hide ((Kr.out.trans k1).setC ⟨Gr, 0, none⟩ hGl.out (.string NM))
      have fz := (Br.out.keeps k1).frozen 0
      have ce := (Br.out.keeps k1).cell 0
      replace Br := hide (show Blk _ Gr #[.string NM, .int .i64 r.t, .int .i64 r.c, .int .i64 r.l, .string r.d] _ from (Br.out.keeps k1).set 0 (.string NM))
      clear k1 b0 HL
      go_upto_region 7 with fail
      clear fz ce
      generalize w3.setCell ⟨Gr, 0, none⟩ (.string NM) = W3 at *
      have b0 := Br.out.cell 0
      have b1 := Br.out.cell 1
      have b2 := Br.out.cell 2
      have b3 := Br.out.cell 3
      have b4 := Br.out.cell 4
      simp only [List.getElem?_toArray, List.getElem?_cons_zero, List.getElem?_cons_succ] at b0 b1 b2 b3 b4
      have HLT : Hid ((((l.take j).map (endR base)).map recL8).length = j) := by rw [Hid, List.length_map, List.length_map, List.length_take]; omega
      generalize hLL : ((l.take j).map (endR base)).map recL8 = LL at *
      go_wp2_with (at_builtin; refine wpList_appR 44 24 5 56 (recV noRec) _ Try.underlying24 Try.infoRR rfl (by decide) rfl _ _ rfl w.heap.size _ _ rfl ((hown.out.below Kr.out).alloc _) _ _ (recL8 ⟨NM, r.t, r.c, r.l, r.d⟩) rfl rfl ?c0 ?c1 ?c2 ?c3 ?c4 ?_)
      case c0 => exact ones8 _
      case c1 =>
        intro jj u hu
        exact cells_box _ #[.string NM, .int .i64 r.t, .int .i64 r.c, .int .i64 r.l, .string r.d] _ jj u hu
      case c2 => rw [HLT.out]; unfold maxLen; omega
      case c3 => rw [HLT.out]; omega
      case c4 => exact ((K1.out.trans Kr.out).alloc _).size
      intro v' w5 hown5 hb5 _
      have K5 := hide (show Keeps w w5 from Below.trans ((K1.out.trans Kr.out).alloc _) hb5)
      have H5 : Hid (OwnsR w5 w.heap.size 44 5 v' (((l.take (j + 1)).map (endR base)).map recL8)) := by rw [Hid, HST.out]; exact hown5
      clear hown5 hb5
      go_wp2
      go_roundw
      case rel => exact ⟨j + 1, by omega, by go_num, H5.out, K5.out⟩
      case measure => simp [intOf]; omega
    · obtain rfl : j = l.length := by omega
      rw [List.take_length] at hown
      go_wp2
      go_ret
      exact RowsEnd8.mk hown.out K1.out
end Go.Proofs.Ytcohceggooockaa
