/- The document's Small for sets; slices.Equal of texts; Same of package group, and the document's. No condition but lengths. -/
import Derived.Test.YtdfhojhljfcolaaGrp8
namespace Go.Proofs.Ytdfhojhljfcolaa
open Go.RowKit

set_option maxHeartbeats 4000000 in
set_option maxRecDepth 100000 in
theorem SmallS_any (v : Value) (s : St) (w : World) (hv : StAt w v s) (hf : StFine s) :
    Calls Try.prog 16 #[v] w fun e w' => e = .returned (.bool (smallS s)) ∧ Keeps w w' := by
  obtain ⟨vd, rfl, hd⟩ := hv
  obtain ⟨f1, f2, f3⟩ := hf
  unfold maxLen at f1 f2
  obtain ⟨a, cap, hvd⟩ := hd.len
  subst hvd
  have HO := hide (show smallS s = (s.ds.all fewD && decide (s.ds.length ≤ 60) && decide (s.key.n.size ≤ 300)) from rfl)
  have HF := hide f3
  have B := hide (Blk.made w #[.string s.key.n, .int .i64 s.key.t, .int .i64 s.key.c, .slice a s.ds.length cap, .int .i64 s.ttl] 35)
  have K := hide ((Keeps.refl w).alloc (.cells #[.string s.key.n, .int .i64 s.key.t, .int .i64 s.key.c, .slice a s.ds.length cap, .int .i64 s.ttl] 35))
  have HD := hide hd
  clear hd f3
  generalize smallS s = R at *
  go_enter Try.func16, Try.ntmps16
  go_upto_region 1 with fail
  generalize w.alloc (.cells #[.string s.key.n, .int .i64 s.key.t, .int .i64 s.key.c, .slice a s.ds.length cap, .int .i64 s.ttl] 35) = W at *
  generalize hGw : w.heap.size = G at *
  go_wp2
  obtain ⟨b0, b1, b2, b3, b4, _⟩ := B.out.five_cells
  go_loopw [3] (fun i wr => ∃ j : Nat, j ≤ s.ds.length ∧ i = .int .i64 j ∧ Hid ((s.ds.take j).all fewD = true) ∧ Hid (0 < j → s.ds.length ≤ 60) ∧ wr = W) (fun i _ => s.ds.length - (intOf i).toNat)
  case atStart => exact ⟨0, by omega, rfl, by simp [Hid], by simp [Hid], rfl⟩
  case round =>
    obtain ⟨j, hj, rfl, HA, HL, rfl⟩ := hrel
    by_cases hlt : j < s.ds.length
    · have i2 : (j : Int) < (s.ds.length : Int) := by omega
      have i0 : (0 : Int) ≤ (j : Int) := by omega
      obtain ⟨b, off, cap', he, _, hcell, _⟩ := (HD.out.keeps K.out).parts (by omega)
      simp only [Value.slice.injEq, true_and] at he
      obtain ⟨rfl, rfl⟩ := he
      have hc := hcell j hlt
      have hsz := HF.out _ (List.getElem_mem hlt)
      have HS := hide (all_take10 fewD hlt)
      have HN := hide (all_no10 fewD hlt)
      generalize hoo : off + j = o at hc
      generalize s.ds[j] = x at *
      have hsz2 : (⟨x.toArray⟩ : ByteArray).size = x.length := by show x.toArray.size = x.length; simp
      have HB : Hid (fewD x = decide ((⟨x.toArray⟩ : ByteArray).size ≤ 2000)) := by rw [Hid, hsz2]; rfl
      rw [← hsz2] at hsz
      unfold sv at hc
      unfold maxLen at hsz
      clear hcell hsz2 HD
      generalize (⟨x.toArray⟩ : ByteArray) = y at *
      by_cases h1 : (2000 : Int) < (y.size : Int)
      · have HE : Hid (R = false) := by rw [Hid, HO.out, HN.out (by rw [HB.out, decide_eq_false (by omega)])]; rfl
        clear HN HS HB
        go_wp2
        go_ret
        exact ⟨ret_bool HE.out.symm, K.out⟩
      by_cases h3 : (60 : Int) < (s.ds.length : Int)
      · have HE : Hid (R = false) := by rw [Hid, HO.out, decide_eq_false (p := s.ds.length ≤ 60) (by omega)]; simp
        clear HN HS HB
        go_wp2
        go_ret
        exact ⟨ret_bool HE.out.symm, K.out⟩
      have HE := hide (show (s.ds.take (j + 1)).all fewD = true by rw [HS.out, HA.out, HB.out, decide_eq_true (by omega)]; rfl)
      have HL2 : Hid (0 < j + 1 → s.ds.length ≤ 60) := fun _ => by omega
      clear HN HS HB HA HL
      go_wp2
      go_roundw
      case rel => exact ⟨j + 1, by omega, by go_num, HE, HL2, trivial⟩
      case measure => simp [intOf]; omega
    · obtain rfl : j = s.ds.length := by omega
      rw [List.take_length] at HA
      have HE : Hid (R = decide (s.key.n.size ≤ 300)) := by
        rw [Hid, HO.out, HA.out]
        have : s.ds.length ≤ 60 := by
          rcases Nat.eq_zero_or_pos s.ds.length with h | h
          · omega
          · exact HL.out h
        simp [this]
      have hde : decide (s.key.n.size ≤ 300) = decide ((s.key.n.size : Int) ≤ 300) := by by_cases h : s.key.n.size ≤ 300 <;> simp [h] <;> omega
      rw [hde] at HE
      clear hde
      go_wp2
      go_ret
      exact ⟨ret_bool HE.out.symm, K.out⟩

theorem str_neq (x y : List UInt8) : (!(⟨x.toArray⟩ : ByteArray).toList == (⟨y.toArray⟩ : ByteArray).toList) = !decide (x = y) := by
  rw [toList_bl, toList_bl, bl_of, bl_of]
  by_cases h : x = y <;> simp [h]

set_option maxHeartbeats 4000000 in
set_option maxRecDepth 100000 in
theorem equalS_any (v u : Value) (l k : List (List UInt8)) (w : World) (hv : ReadS w v l) (hu : ReadS w u k) (hl : l.length ≤ maxLen) (hk : k.length ≤ maxLen) :
    Calls Try.prog 35 #[v, u] w fun e w' => e = .returned (.bool (decide (l = k))) ∧ Keeps w w' := by
  unfold maxLen at hl hk
  obtain ⟨a, cap, h1⟩ := hv.len
  obtain ⟨a2, cap2, h2⟩ := hu.len
  subst h1 h2
  by_cases hlen : l.length = k.length
  · have hne : ((l.length : Int) != (k.length : Int)) = false := by rw [hlen]; simp
    have HLEN := hide hlen
    have hlk : l.length ≤ k.length := by omega
    clear hlen
    go_enter Try.func35, Try.ntmps35
    go_wp2
    go_loopw [13] (fun i wr => ∃ j : Nat, j ≤ l.length ∧ i = .int .i64 j ∧ Hid (l.take j = k.take j) ∧ Keeps w wr) (fun i _ => l.length - (intOf i).toNat)
    case atStart => exact ⟨0, by omega, rfl, by simp [Hid], Keeps.refl _⟩
    case round =>
      obtain ⟨j, hj, rfl, HA, K⟩ := hrel
      by_cases hlt : j < l.length
      · have hlt2 : j < k.length := by omega
        have i2 : (j : Int) < (l.length : Int) := by omega
        have i3 : (j : Int) < (k.length : Int) := by omega
        have i0 : (0 : Int) ≤ (j : Int) := by omega
        obtain ⟨b, off, cap', he, _, hcell, _⟩ := (hv.keeps K).parts (by omega)
        obtain ⟨b2, off2, cap2', he2, _, hcell2, _⟩ := (hu.keeps K).parts (by omega)
        simp only [Value.slice.injEq, true_and] at he he2
        obtain ⟨rfl, rfl⟩ := he
        obtain ⟨rfl, rfl⟩ := he2
        have hc := hcell j hlt
        have hc2 := hcell2 j hlt2
        have HS := hide (fun e => take8_step hlt hlt2 HA.out e)
        have HN := hide (fun e => ne_at hlt hlt2 e)
        generalize hoo : off + j = o at hc
        generalize hoo2 : off2 + j = o2 at hc2
        generalize l[j] = x at *
        generalize k[j] = y at *
        unfold sv at hc hc2
        have rn := str_neq x y
        have rx : (x == y) = decide (x = y) := by by_cases h : x = y <;> simp [h]
        clear hcell hcell2 hv hu
        by_cases he : x = y
        · have HE := hide (HS.out he)
          rw [decide_eq_true he] at rn rx
          clear HS HN HA
          subst he
          go_wp2_with fail
          go_region
          go_wp2
          go_roundw
          case rel => exact ⟨j + 1, by omega, by go_num, HE, K.drew⟩
          case measure => simp [intOf]; omega
        · have HE := hide (HN.out he)
          rw [decide_eq_false he] at rn rx
          have rz : ((⟨x.toArray⟩ : ByteArray).toList == (⟨y.toArray⟩ : ByteArray).toList) = false := by simpa using rn
          clear HS HN HA
          replace he := hide he
          go_wp2_with fail
          go_region
          go_wp2
          go_ret
          exact ⟨ret_bool (by rw [decide_eq_false HE.out]), K.drew⟩
      · obtain rfl : j = l.length := by omega
        have HE : Hid (l = k) := by
          have := HA.out
          rw [List.take_length, HLEN.out, List.take_length] at this
          exact this
        go_wp2
        go_ret
        exact ⟨ret_bool (by rw [decide_eq_true HE.out]), K⟩
  · have hne : ((l.length : Int) != (k.length : Int)) = true := by rw [bne_iff_ne]; omega
    have HE : Hid (¬ l = k) := fun h => hlen (by rw [h])
    go_enter Try.func35, Try.ntmps35
    go_wp2
    go_ret
    exact ⟨ret_bool (by rw [decide_eq_false HE.out]), Keeps.refl _⟩
end Go.Proofs.Ytdfhojhljfcolaa
