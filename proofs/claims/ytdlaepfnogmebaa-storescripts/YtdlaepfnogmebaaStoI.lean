/- The document's store: its keys; made anew. No condition but lengths. -/
import Derived.Test.YtdlaepfnogmebaaStoH
namespace Go.Proofs.Ytdlaepfnogmebaa
open Go.RowKit

theorem qnL_ones' (q : Qn) : ∀ u ∈ qnL q, u.oneCell' = true := by
  intro u hu
  simp only [qnL, List.mem_cons, List.not_mem_nil, or_false] at hu
  rcases hu with rfl | rfl | rfl <;> rfl
set_option maxHeartbeats 8000000 in
set_option maxRecDepth 100000 in
theorem rKeys_any (room ch : Int) (v : Value) (zs : List (It × Value)) (w : World) (hv : ReadRow w v 7 (zs.map itZ)) (hl : zs.length ≤ 1000000) :
    Calls Try.prog 26 #[.agg #[.int .i64 room, v, .int .i64 ch]] w fun e w' => REnd w 32 3 ((Sto.keysL (itemsZ zs)).map qnL) e w' := by
  obtain ⟨va, vc, hvd⟩ := hv.len
  rw [List.length_map] at hvd
  subst hvd
  have RD := hide hv
  have HE : Hid (Sto.keysL (itemsZ zs) = zs.map (fun z => z.1.set.key)) := by unfold Sto.keysL itemsZ; rw [Hid, List.map_map]; rfl
  rw [HE.out]
  clear hv HE
  have A := hide (Blk.made w #[.int .i64 room, .slice va zs.length vc, .int .i64 ch] 29)
  have K := hide ((Keeps.refl w).alloc (.cells #[.int .i64 room, .slice va zs.length vc, .int .i64 ch] 29))
  go_enter Try.func26, Try.ntmps26
  go_upto_region 1 with fail
  generalize w.alloc (.cells #[.int .i64 room, .slice va zs.length vc, .int .i64 ch] 29) = W at *
  have hFW : Hid (w.heap.size < W.heap.size) := A.out.lt
  generalize hF : w.heap.size = F at A hFW ⊢
  replace hF := hide hF
  generalize hWB : W.heap.size = WB at hFW
  have hWK : Hid (WB ≤ W.heap.size) := Nat.le_of_eq hWB.symm
  clear hWB
  go_wp2_with fail
  go_loopw [3, 4] (fun ov i wr => ∃ j : Nat, j ≤ zs.length ∧ i = .int .i64 j ∧ Hid (OwnsR wr WB 32 3 ov (((zs.take j).map (fun z => z.1.set.key)).map qnL)) ∧ Hid (Blk wr F #[.int .i64 room, .slice va zs.length vc, .int .i64 ch] 29) ∧ Hid (Keeps w wr) ∧ Hid (WB ≤ wr.heap.size)) (fun _ i _ => zs.length - (intOf i).toNat)
  case atStart => exact ⟨0, by omega, rfl, hide (by simp; exact OwnsR.nil _ _ _ _), A, K, hWK⟩
  case round =>
    clear A K hWK
    obtain ⟨j, hj, rfl, OW, A, K, hWK⟩ := hrel
    obtain ⟨a0, a1, a2⟩ := A.out.three.1
    by_cases hlt : j < zs.length
    · have i2 : (j : Int) < (zs.length : Int) := by omega
      have i0 : (0 : Int) ≤ (j : Int) := by omega
      have hv2 := RD.out.keeps K.out
      obtain ⟨b, off, rfl, -, -⟩ := RD.out.parts (by rw [List.length_map]; omega)
      obtain ⟨c0, c1, c2, -, -, -, -⟩ := row7z hv2 hlt
      have HTK := hide (show zs.take (j + 1) = zs.take j ++ [zs[j]] from List.take_succ_eq_append_getElem hlt)
      have hln : Hid ((((zs.take j).map (fun z => z.1.set.key)).map qnL).length ≤ zs.length) := by rw [Hid, List.length_map, List.length_map, List.length_take]; omega
      have HK : Hid ((((zs.take (j + 1)).map (fun z => z.1.set.key)).map qnL) = (((zs.take j).map (fun z => z.1.set.key)).map qnL) ++ [qnL zs[j].1.set.key]) := by rw [Hid, HTK.out, List.map_append, List.map_append]; rfl
      generalize hoo : off + j * 7 = o at *
      generalize zs[j].1.set.key = k at c0 c1 c2 HK
      clear hv2 HTK
      have hownA := hide (OW.out.alloc (.cells #[.string k.n, .int .i64 k.t, .int .i64 k.c] 32))
      clear OW
      have KA := hide (K.out.alloc (.cells #[.string k.n, .int .i64 k.t, .int .i64 k.c] 32))
      have AA := hide (A.out.alloc (.cells #[.string k.n, .int .i64 k.t, .int .i64 k.c] 32))
      have hWA : Hid (WB ≤ (wr.alloc (.cells #[.string k.n, .int .i64 k.t, .int .i64 k.c] 32)).heap.size) := by have h1 : (wr.alloc (.cells #[.string k.n, .int .i64 k.t, .int .i64 k.c] 32)).heap.size = wr.heap.size + 1 := size_allocG _ _; have h2 := hWK.out; rw [Hid]; omega
      generalize hLL : ((zs.take j).map (fun z => z.1.set.key)).map qnL = LL at *
      go_wp2_with (at_builtin; refine wpList_appR 32 57 3 32 (qnV noQn) _ Try.underlying57 Try.infoQ rfl (by decide) rfl _ _ rfl WB _ _ rfl hownA.out _ _ (qnL k) rfl rfl ?c0 ?c1 ?c2 ?c3 ?c4 ?_)
      case c0 => exact qnL_ones' k
      case c1 =>
        intro jj u hu
        exact cells_box wr #[.string k.n, .int .i64 k.t, .int .i64 k.c] 32 jj u hu
      case c2 => have := hln.out; unfold maxLen; omega
      case c3 => have := hln.out; omega
      case c4 => exact hWA.out
      intro v' w5 hown5 hb5 _
      have hlow : w.heap.size ≤ WB := by have h1 := hFW.out; have h2 := hF.out; omega
      have K5 := hide (show Keeps w w5 from Below.trans KA.out ⟨hb5.os, hb5.tape, hb5.output, hb5.size, fun i hi => hb5.block i (Nat.lt_of_lt_of_le hi hlow)⟩)
      have A5 := hide (show Blk w5 F _ _ from (hb5.block F hFW.out).trans AA.out)
      have W5 : Hid (WB ≤ w5.heap.size) := Nat.le_trans hWA.out hb5.size
      have H5 := hide hown5
      clear hown5 hb5 hlow
      go_wp2
      go_roundw
      case rel => exact ⟨j + 1, by omega, by go_num, by rw [HK.out]; exact H5, A5, K5, W5⟩
      case measure => simp [intOf]; omega
    · obtain rfl : j = zs.length := by omega
      rw [List.take_length] at OW
      go_wp2
      go_ret
      exact REnd.mk (OW.out.le (by have h1 := hFW.out; have h2 := hF.out; omega)) K.out
end Go.Proofs.Ytdlaepfnogmebaa
