/- The document's Small for sets; slices.Equal of texts; Same of package group, and the document's. No condition but lengths. -/
import Derived.Test.YtgfaoaabnjblhaaGrp8
namespace Go.Proofs.Ytgfaoaabnjblhaa
open Go.RowKit

set_option maxHeartbeats 4000000 in
set_option maxRecDepth 100000 in
theorem SmallS_any (v : Value) (s : St) (w : World) (hv : StAt w v s) (hf : StFine s) :
    Calls Try.prog 30 #[v] w fun e w' => e = .returned (.bool (smallS s)) ∧ Keeps w w' := by
  obtain ⟨vd, rfl, hd⟩ := hv
  obtain ⟨f1, f2, f3⟩ := hf
  unfold maxLen at f1 f2
  obtain ⟨a, cap, hvd⟩ := hd.len
  subst hvd
  have HO := hide (show smallS s = (s.ds.all fewD && decide (s.ds.length ≤ 60) && decide (s.key.n.size ≤ 300)) from rfl)
  have HF := hide f3
  have B := hide (Blk.made w #[.string s.key.n, .int .i64 s.key.t, .int .i64 s.key.c, .slice a s.ds.length cap, .int .i64 s.ttl] 35)
  have K := hide ((Keeps.refl w).alloc (.cells #[.string s.key.n, .int .i64 s.key.t, .int .i64 s.key.c, .slice a s.ds.length cap, .int .i64 s.ttl] 35))
  have HD := hide hd
  clear hd f3
  generalize smallS s = R at *
  go_enter Try.func30, Try.ntmps30
  go_upto_region 1 with fail
  generalize w.alloc (.cells #[.string s.key.n, .int .i64 s.key.t, .int .i64 s.key.c, .slice a s.ds.length cap, .int .i64 s.ttl] 35) = W at *
  generalize hGw : w.heap.size = G at *
  go_wp2
  obtain ⟨b0, b1, b2, b3, b4, _⟩ := B.out.five_cells
  go_loopw [3] (fun i wr => ∃ j : Nat, j ≤ s.ds.length ∧ i = .int .i64 j ∧ Hid ((s.ds.take j).all fewD = true) ∧ Hid (0 < j → s.ds.length ≤ 60) ∧ wr = W) (fun i _ => s.ds.length - (intOf i).toNat)
  case atStart => exact ⟨0, by omega, rfl, by simp [Hid], by simp [Hid], rfl⟩
  case round =>
    obtain ⟨j, hj, rfl, HA, HL, rfl⟩ := hrel
    by_cases hlt : j < s.ds.length
    · have i2 : (j : Int) < (s.ds.length : Int) := by omega
      have i0 : (0 : Int) ≤ (j : Int) := by omega
      obtain ⟨b, off, cap', he, _, hcell, _⟩ := (HD.out.keeps K.out).parts (by omega)
      simp only [Value.slice.injEq, true_and] at he
      obtain ⟨rfl, rfl⟩ := he
      have hc := hcell j hlt
      have hsz := HF.out _ (List.getElem_mem hlt)
      have HS := hide (all_take10 fewD hlt)
      have HN := hide (all_no10 fewD hlt)
      generalize hoo : off + j = o at hc
      generalize s.ds[j] = x at *
      have hsz2 : (⟨x.toArray⟩ : ByteArray).size = x.length := by show x.toArray.size = x.length; simp
      have HB : Hid (fewD x = decide ((⟨x.toArray⟩ : ByteArray).size ≤ 2000)) := by rw [Hid, hsz2]; rfl
      rw [← hsz2] at hsz
      unfold sv at hc
      unfold maxLen at hsz
      clear hcell hsz2 HD
      generalize (⟨x.toArray⟩ : ByteArray) = y at *
      by_cases h1 : (2000 : Int) < (y.size : Int)
      · have HE : Hid (R = false) := by rw [Hid, HO.out, HN.out (by rw [HB.out, decide_eq_false (by omega)])]; rfl
        clear HN HS HB
        go_wp2
        go_ret
        exact ⟨ret_bool HE.out.symm, K.out⟩
      by_cases h3 : (60 : Int) < (s.ds.length : Int)
      · have HE : Hid (R = false) := by rw [Hid, HO.out, decide_eq_false (p := s.ds.length ≤ 60) (by omega)]; simp
        clear HN HS HB
        go_wp2
        go_ret
        exact ⟨ret_bool HE.out.symm, K.out⟩
      have HE := hide (show (s.ds.take (j + 1)).all fewD = true by rw [HS.out, HA.out, HB.out, decide_eq_true (by omega)]; rfl)
      have HL2 : Hid (0 < j + 1 → s.ds.length ≤ 60) := fun _ => by omega
      clear HN HS HB HA HL
      go_wp2
      go_roundw
      case rel => exact ⟨j + 1, by omega, by go_num, HE, HL2, trivial⟩
      case measure => simp [intOf]; omega
    · obtain rfl : j = s.ds.length := by omega
      rw [List.take_length] at HA
      have HE : Hid (R = decide (s.key.n.size ≤ 300)) := by
        rw [Hid, HO.out, HA.out]
        have : s.ds.length ≤ 60 := by
          rcases Nat.eq_zero_or_pos s.ds.length with h | h
          · omega
          · exact HL.out h
        simp [this]
      have hde : decide (s.key.n.size ≤ 300) = decide ((s.key.n.size : Int) ≤ 300) := by by_cases h : s.key.n.size ≤ 300 <;> simp [h] <;> omega
      rw [hde] at HE
      clear hde
      go_wp2
      go_ret
      exact ⟨ret_bool HE.out.symm, K.out⟩

theorem str_neq (x y : List UInt8) : (!(⟨x.toArray⟩ : ByteArray).toList == (⟨y.toArray⟩ : ByteArray).toList) = !decide (x = y) := by
  rw [toList_bl, toList_bl, bl_of, bl_of]
  by_cases h : x = y <;> simp [h]

end Go.Proofs.Ytgfaoaabnjblhaa
