/- GroupLetters answers true, for every input: the walk. -/
import Derived.Test.YtdfhojhljfcolaaGrpLive
import Derived.Test.YtdfhojhljfcolaaGrpN
import Derived.Test.YtdfhojhljfcolaaShapesR
import Derived.Test.YtdfhojhljfcolaaMsgW4
import Derived.Test.YtdfhojhljfcolaaGrp4
namespace Go.Proofs.Ytdfhojhljfcolaa
open Go.RowKit

def LetRel (w : World) (l : List Rec) (v i : Value) (wr : World) : Prop :=
  ∃ j : Nat, j ≤ l.length ∧ i = .int .i64 j ∧ OwnsR wr w.heap.size 29 5 v (((l.take j).map lowRec).map recL8) ∧ Keeps w wr
theorem let_step (l : List Rec) (j : Nat) (hj : j < l.length) : ((l.take (j + 1)).map lowRec).map recL8 = ((l.take j).map lowRec).map recL8 ++ [recL8 (lowRec l[j])] := by
  rw [List.take_succ_eq_append_getElem hj, List.map_append, List.map_append]
  rfl
theorem lowRec_fine {r : Rec} (h : r.n.size ≤ maxLen ∧ r.d.size ≤ maxLen) : (lowRec r).n.size ≤ maxLen ∧ (lowRec r).d.size ≤ maxLen := by
  unfold lowRec
  split
  · refine ⟨Nat.le_trans (lowS_size _) h.1, ?_⟩
    have := lowD_len r.t (bl r.d)
    show (Dt.lowD r.t (bl r.d)).toArray.size ≤ maxLen
    rw [List.size_toArray]
    unfold maxLen
    omega
  · exact h

set_option maxHeartbeats 8000000 in
set_option maxRecDepth 100000 in
theorem GroupLetters_walk (v : Value) (l : List Rec) (w : World) (hv : ReadRow w v 5 (l.map recL) ∧ (∀ r ∈ l, RecFine r) ∧ l.length ≤ maxLen) :
    Calls Try.prog 8 #[v] w fun e w' => e = .returned (.bool true) ∧ Keeps w w' := by
  obtain ⟨hrd0, hfine, hlen⟩ := hv
  have hrd : ReadRow w v 5 (l.map recL8) := hrd0
  clear hrd0
  have hsz : ∀ x ∈ l, x.n.size ≤ maxLen ∧ x.d.size ≤ maxLen := fun x hx => ⟨(hfine x hx).1, (hfine x hx).2.1⟩
  clear hfine
  have hfe : fewL l = true → l.length ≤ 60 := fun h => by
    simp only [fewL, Bool.and_eq_true, decide_eq_true_eq] at h
    exact h.2
  have HF := hide (Few_any v l w hrd hlen hsz)
  obtain ⟨a, cap, hvd⟩ := hrd.len
  rw [List.length_map] at hvd
  subst hvd
  go_enter Try.func8, Try.ntmps8
  go_wp2_with fail
  refine (HF.out).mono ?_
  rintro e w1 ⟨rfl, k1⟩
  have K := hide k1
  have RD := hide (hrd.keeps k1)
  clear k1 HF hrd
  cases hfew : fewL l
  · go_wp2_with fail
    refine (live10_any _).mono ?_
    rintro e wz ⟨rfl, kz⟩
    go_wp2
    go_ret
    exact ⟨rfl, K.out.trans kz⟩
  have h60 := hfe hfew
  clear hfe hfew
  go_wp2_with fail
  go_loopw [3, 4] (fun v i wr => LetRel w1 l v i wr) (fun _ i _ => l.length - (intOf i).toNat)
  case atStart => exact ⟨0, by omega, rfl, by simpa using OwnsR.nil _ _ _ _, Keeps.refl _⟩
  case round =>
    obtain ⟨j, hj, rfl, hown, K1⟩ := hrel
    replace hown := hide hown
    replace K1 := hide K1
    by_cases hlt : j < l.length
    · have i2 : (j : Int) < (l.length : Int) := by omega
      have i0 : (0 : Int) ≤ (j : Int) := by omega
      have hv2 := RD.out.keeps K1.out
      obtain ⟨b, off, rfl, _, _⟩ := hv2.parts (by rw [List.length_map]; omega)
      obtain ⟨c0, c1, c2, c3, c4⟩ := row5 hv2 hlt
      obtain ⟨fn, fd⟩ := hsz _ (List.getElem_mem hlt)
      have HST := hide (let_step l j hlt)
      generalize hoo : off + j * 5 = o at *
      generalize l[j] = r at *
      have HK := fun W => refrcheck_any r W fn fd
      have HL := hide (fun W => reflow_any r.n W fn)
      have HD := hide (fun W => reflow5_any r.t r.d W fd)
      simp only [recV] at HK
      replace HK := hide HK
      have Kr := hide ((Keeps.refl wr).alloc (.cells #[.string r.n, .int .i64 r.t, .int .i64 r.c, .int .i64 r.l, .string r.d] 29))
      have Br := hide (Blk.made wr #[.string r.n, .int .i64 r.t, .int .i64 r.c, .int .i64 r.l, .string r.d] 29)
      have hGr : Hid (∃ G, wr.heap.size = G ∧ wr.heap.size ≤ G) := ⟨_, rfl, Nat.le_refl _⟩
      clear hv2
      go_upto_region 8 with fail
      clear c0 c1 c2 c3 c4
      generalize wr.alloc (.cells #[.string r.n, .int .i64 r.t, .int .i64 r.c, .int .i64 r.l, .string r.d] 29) = W1 at *
      obtain ⟨Gr, hGe, hGl⟩ := hGr.out
      rw [hGe] at Br ⊢
      replace hGl := hide hGl
      clear hGr hGe
      obtain ⟨b0, b1, b2, b3, b4, _⟩ := Br.out.five_cells
      go_wp2_with fail
      refine (HK.out _).mono ?_
      rintro e w2 ⟨rfl, k1⟩
      replace Kr := hide (Kr.out.trans k1)
      replace Br := hide (Br.out.keeps k1)
      clear k1 b0 b1 b2 b3 b4 HK
      have HLT : Hid ((((l.take j).map lowRec).map recL8).length = j) := by rw [Hid, List.length_map, List.length_map, List.length_take]; omega
      generalize hLL : ((l.take j).map lowRec).map recL8 = LL at *
      cases hok : recOk r
      · have hlr : lowRec r = r := by rw [lowRec, hok]; simp
        rw [hlr] at HST
        clear hlr
        obtain ⟨b0, b1, b2, b3, b4, _⟩ := Br.out.five_cells
        go_wp2_with (at_builtin; refine wpList_appR 29 22 5 56 (recV noRec) _ Try.underlying22 Try.infoRR rfl (by decide) rfl _ _ rfl w1.heap.size _ _ rfl ((hown.out.below Kr.out).alloc _) _ _ (recL8 ⟨r.n, r.t, r.c, r.l, r.d⟩) rfl rfl ?c0 ?c1 ?c2 ?c3 ?c4 ?_)
        case c0 => exact recL8_ones _
        case c1 =>
          intro jj u hu
          exact cells_box _ #[.string r.n, .int .i64 r.t, .int .i64 r.c, .int .i64 r.l, .string r.d] _ jj u hu
        case c2 => rw [HLT.out]; unfold maxLen; omega
        case c3 => rw [HLT.out]; omega
        case c4 => exact ((K1.out.trans Kr.out).alloc _).size
        intro v' w5 hown5 hb5 _
        have K5 := hide (show Keeps w1 w5 from Below.trans ((K1.out.trans Kr.out).alloc _) hb5)
        have H5 : Hid (OwnsR w5 w1.heap.size 29 5 v' (((l.take (j + 1)).map lowRec).map recL8)) := by rw [Hid, HST.out]; exact hown5
        clear hown5 hb5
        go_wp2
        go_roundw
        case rel => exact ⟨j + 1, by omega, by go_num, H5.out, K5.out⟩
        case measure => simp [intOf]; omega
      · have hlr : lowRec r = ⟨lowS r.n, r.t, r.c, r.l, ⟨(Dt.lowD r.t (bl r.d)).toArray⟩⟩ := by rw [lowRec, if_pos hok]
        rw [hlr] at HST
        clear hlr
        generalize lowS r.n = NM at *
        generalize (⟨(Dt.lowD r.t (bl r.d)).toArray⟩ : ByteArray) = DM at *
        obtain ⟨b0, b1, b2, b3, b4, _⟩ := Br.out.five_cells
        go_wp2_with fail
        refine (HL.out _).mono ?_
        rintro e w3 ⟨rfl, k1⟩
        replace Kr := hide ((Kr.out.trans k1).setC ⟨Gr, 0, none⟩ hGl.out (.string NM))
        have fz := (Br.out.keeps k1).frozen 0
        have ce := (Br.out.keeps k1).cell 0
        replace Br := hide (show Blk _ Gr #[.string NM, .int .i64 r.t, .int .i64 r.c, .int .i64 r.l, .string r.d] _ from (Br.out.keeps k1).set 0 (.string NM))
        clear k1 b0 b1 b2 b3 b4 HL
        go_upto_region 10 with fail
        clear fz ce
        generalize w3.setCell ⟨Gr, 0, none⟩ (.string NM) = W3 at *
        obtain ⟨b0, b1, b2, b3, b4, _⟩ := Br.out.five_cells
        go_wp2_with fail
        refine (HD.out _).mono ?_
        rintro e w4 ⟨rfl, k1⟩
        replace Kr := hide ((Kr.out.trans k1).setC ⟨Gr, 4, none⟩ hGl.out (.string DM))
        have fz := (Br.out.keeps k1).frozen 4
        have ce := (Br.out.keeps k1).cell 4
        replace Br := hide (show Blk _ Gr #[.string NM, .int .i64 r.t, .int .i64 r.c, .int .i64 r.l, .string DM] _ from (Br.out.keeps k1).set 4 (.string DM))
        clear k1 b0 b1 b2 b3 b4 HD
        go_upto_region 11 with fail
        clear fz ce
        generalize w4.setCell ⟨Gr, 4, none⟩ (.string DM) = W4 at *
        obtain ⟨b0, b1, b2, b3, b4, _⟩ := Br.out.five_cells
        go_wp2_with (at_builtin; refine wpList_appR 29 22 5 56 (recV noRec) _ Try.underlying22 Try.infoRR rfl (by decide) rfl _ _ rfl w1.heap.size _ _ rfl ((hown.out.below Kr.out).alloc _) _ _ (recL8 ⟨NM, r.t, r.c, r.l, DM⟩) rfl rfl ?c0 ?c1 ?c2 ?c3 ?c4 ?_)
        case c0 => exact recL8_ones _
        case c1 =>
          intro jj u hu
          exact cells_box _ #[.string NM, .int .i64 r.t, .int .i64 r.c, .int .i64 r.l, .string DM] _ jj u hu
        case c2 => rw [HLT.out]; unfold maxLen; omega
        case c3 => rw [HLT.out]; omega
        case c4 => exact ((K1.out.trans Kr.out).alloc _).size
        intro v' w5 hown5 hb5 _
        have K5 := hide (show Keeps w1 w5 from Below.trans ((K1.out.trans Kr.out).alloc _) hb5)
        have H5 : Hid (OwnsR w5 w1.heap.size 29 5 v' (((l.take (j + 1)).map lowRec).map recL8)) := by rw [Hid, HST.out]; exact hown5
        clear hown5 hb5
        go_wp2
        go_roundw
        case rel => exact ⟨j + 1, by omega, by go_num, H5.out, K5.out⟩
        case measure => simp [intOf]; omega
    · obtain rfl : j = l.length := by omega
      rw [List.take_length] at hown
      have HF1 := hide (From_any _ l wr (RD.out.keeps K1.out) (by omega) hsz)
      have hs2 : ∀ x ∈ l.map lowRec, x.n.size ≤ maxLen ∧ x.d.size ≤ maxLen := by
        intro x hx
        rw [List.mem_map] at hx
        obtain ⟨r, hr, rfl⟩ := hx
        exact lowRec_fine (hsz r hr)
      have HF2 := fun W (k : Keeps wr W) => From_any _ (l.map lowRec) W (hown.out.read.keeps k) (by rw [List.length_map]; omega) hs2
      rw [from_low] at HF2
      replace HF2 := hide HF2
      obtain ⟨hn1, hn2⟩ := from_len l
      generalize fromM l = ss at *
      go_wp2_with fail
      refine (HF1.out).mono ?_
      intro e w2 hE
      obtain ⟨va, rfl, ra, k2⟩ := hE
      clear HF1
      go_wp2_with fail
      refine (HF2.out _ k2).mono ?_
      intro e w3 hE
      obtain ⟨vb, rfl, rb, k3⟩ := hE
      clear HF2
      have HSS := refSets_any va vb ss ss w3 (ra.keeps k3) rb (by unfold maxLen; omega) (by unfold maxLen; omega) (fun s hs => by have := hn2 s hs; omega)
      rw [decide_eq_true rfl] at HSS
      go_wp2_with fail
      refine HSS.mono ?_
      rintro e w4 ⟨rfl, k4⟩
      go_wp2_with fail
      refine (live10_any _).mono ?_
      rintro e wz ⟨rfl, kz⟩
      go_wp2
      go_ret
      exact ⟨rfl, ((((K.out.trans K1.out).trans k2).trans k3).trans k4).trans kz⟩
end Go.Proofs.Ytdfhojhljfcolaa
