/- The document's Few, Small and In for sets; slices.Equal of texts; Same of package group. No condition but lengths. The document's Small for sets; slices.Equal of texts; Same of package group, and the document's. No condition but lengths. Same of package group, and the document's. No condition but lengths. -/
import Derived.Test.YtdlaepfnogmebaaGrp3
namespace Go.Proofs.Ytdlaepfnogmebaa
open Go.RowKit

def fewR (r : Rec) : Bool := decide (r.n.size ≤ 300) && decide (r.d.size ≤ 2000)
def fewL (l : List Rec) : Bool := l.all fewR && decide (l.length ≤ 60)
def fewD (d : List UInt8) : Bool := decide (d.length ≤ 2000)
def smallS (s : St) : Bool := s.ds.all fewD && decide (s.ds.length ≤ 60) && decide (s.key.n.size ≤ 300)
theorem all_take10 {α : Type} (p : α → Bool) {l : List α} {j : Nat} (hj : j < l.length) : (l.take (j + 1)).all p = ((l.take j).all p && p l[j]) := by
  rw [List.take_succ_eq_append_getElem hj, List.all_append]
  simp
theorem all_no10 {α : Type} (p : α → Bool) {l : List α} {j : Nat} (hj : j < l.length) (h : p l[j] = false) : l.all p = false := by
  rw [List.all_eq_false]
  exact ⟨l[j], List.getElem_mem hj, by simp [h]⟩

set_option maxHeartbeats 4000000 in
set_option maxRecDepth 100000 in
theorem In_any (v : Value) (l : List (List UInt8)) (d : ByteArray) (w : World) (hr : ReadS w v l) (hl : l.length ≤ maxLen) :
    Calls Try.prog 107 #[v, .string d] w fun e w' => e = .returned (.bool (decide (bl d ∈ l))) ∧ Keeps w w' := by
  unfold maxLen at hl
  obtain ⟨a, cap, hv⟩ := hr.len
  subst hv
  generalize hR : decide (bl d ∈ l) = R at *
  replace hR := hide hR
  go_enter Try.func107, Try.ntmps107
  go_wp2
  go_loopw [5] (fun i wr => ∃ j : Nat, j ≤ l.length ∧ i = .int .i64 j ∧ Hid (bl d ∉ l.take j) ∧ Keeps w wr) (fun i _ => l.length - (intOf i).toNat)
  case atStart => exact ⟨0, by omega, rfl, by simp [Hid], Keeps.refl _⟩
  case round =>
    obtain ⟨j, hj, rfl, HA, K⟩ := hrel
    by_cases hlt : j < l.length
    · have i2 : (j : Int) < (l.length : Int) := by omega
      have i0 : (0 : Int) ≤ (j : Int) := by omega
      obtain ⟨b, off, cap', he, _, hcell, _⟩ := (hr.keeps K).parts (by omega)
      simp only [Value.slice.injEq, true_and] at he
      obtain ⟨rfl, rfl⟩ := he
      have hc := hcell j hlt
      have HT := hide (show l.take (j + 1) = l.take j ++ [l[j]] from List.take_succ_eq_append_getElem hlt)
      have HM := hide (List.getElem_mem hlt)
      generalize hoo : off + j = o at hc
      generalize l[j] = x at *
      unfold sv at hc
      have HXD := hide (show ((⟨x.toArray⟩ : ByteArray).toList == d.toList) = decide (x = bl d) by rw [toList_bl, toList_bl, bl_of]; by_cases h : x = bl d <;> simp [h])
      have HXE := hide (show (x == d.toList) = decide (x = bl d) by rw [toList_bl]; by_cases h : x = bl d <;> simp [h])
      clear hcell hr
      by_cases h : x = bl d
      · have e1 : ((⟨x.toArray⟩ : ByteArray).toList == d.toList) = true := by rw [HXD.out]; exact decide_eq_true h
        have e2 : (x == d.toList) = true := by rw [HXE.out]; exact decide_eq_true h
        have HE : Hid (R = true) := by rw [Hid, ← hR.out, decide_eq_true_eq, ← h]; exact HM.out
        replace h := hide h
        go_wp2
        go_ret
        exact ⟨ret_bool HE.out.symm, K⟩
      · have e1 : ((⟨x.toArray⟩ : ByteArray).toList == d.toList) = false := by rw [HXD.out]; exact decide_eq_false h
        have e2 : (x == d.toList) = false := by rw [HXE.out]; exact decide_eq_false h
        have HE : Hid (bl d ∉ l.take (j + 1)) := by
          rw [Hid, HT.out, List.mem_append, List.mem_singleton]
          rintro (h1 | h1)
          · exact HA.out h1
          · exact h h1.symm
        replace h := hide h
        clear HA HT HM
        go_wp2
        go_roundw
        case rel => exact ⟨j + 1, by omega, by go_num, HE, K⟩
        case measure => simp [intOf]; omega
    · obtain rfl : j = l.length := by omega
      rw [List.take_length] at HA
      have HE : Hid (R = false) := by rw [Hid, ← hR.out]; exact decide_eq_false HA.out
      go_wp2
      go_ret
      exact ⟨ret_bool HE.out.symm, K⟩
end Go.Proofs.Ytdlaepfnogmebaa

namespace Go.Proofs.Ytdlaepfnogmebaa
open Go.RowKit

set_option maxHeartbeats 4000000 in
set_option maxRecDepth 100000 in
theorem SmallS_any (v : Value) (s : St) (w : World) (hv : StAt w v s) (hf : StFine s) :
    Calls Try.prog 48 #[v] w fun e w' => e = .returned (.bool (smallS s)) ∧ Keeps w w' := by
  obtain ⟨vd, rfl, hd⟩ := hv
  obtain ⟨f1, f2, f3⟩ := hf
  unfold maxLen at f1 f2
  obtain ⟨a, cap, hvd⟩ := hd.len
  subst hvd
  have HO := hide (show smallS s = (s.ds.all fewD && decide (s.ds.length ≤ 60) && decide (s.key.n.size ≤ 300)) from rfl)
  have HF := hide f3
  have B := hide (Blk.made w #[.string s.key.n, .int .i64 s.key.t, .int .i64 s.key.c, .slice a s.ds.length cap, .int .i64 s.ttl] 35)
  have K := hide ((Keeps.refl w).alloc (.cells #[.string s.key.n, .int .i64 s.key.t, .int .i64 s.key.c, .slice a s.ds.length cap, .int .i64 s.ttl] 35))
  have HD := hide hd
  clear hd f3
  generalize smallS s = R at *
  go_enter Try.func48, Try.ntmps48
  go_upto_region 1 with fail
  generalize w.alloc (.cells #[.string s.key.n, .int .i64 s.key.t, .int .i64 s.key.c, .slice a s.ds.length cap, .int .i64 s.ttl] 35) = W at *
  generalize hGw : w.heap.size = G at *
  go_wp2
  obtain ⟨b0, b1, b2, b3, b4, _⟩ := B.out.five_cells
  go_loopw [3] (fun i wr => ∃ j : Nat, j ≤ s.ds.length ∧ i = .int .i64 j ∧ Hid ((s.ds.take j).all fewD = true) ∧ Hid (0 < j → s.ds.length ≤ 60) ∧ wr = W) (fun i _ => s.ds.length - (intOf i).toNat)
  case atStart => exact ⟨0, by omega, rfl, by simp [Hid], by simp [Hid], rfl⟩
  case round =>
    obtain ⟨j, hj, rfl, HA, HL, rfl⟩ := hrel
    by_cases hlt : j < s.ds.length
    · have i2 : (j : Int) < (s.ds.length : Int) := by omega
      have i0 : (0 : Int) ≤ (j : Int) := by omega
      obtain ⟨b, off, cap', he, _, hcell, _⟩ := (HD.out.keeps K.out).parts (by omega)
      simp only [Value.slice.injEq, true_and] at he
      obtain ⟨rfl, rfl⟩ := he
      have hc := hcell j hlt
      have hsz := HF.out _ (List.getElem_mem hlt)
      have HS := hide (all_take10 fewD hlt)
      have HN := hide (all_no10 fewD hlt)
      generalize hoo : off + j = o at hc
      generalize s.ds[j] = x at *
      have hsz2 : (⟨x.toArray⟩ : ByteArray).size = x.length := by show x.toArray.size = x.length; simp
      have HB : Hid (fewD x = decide ((⟨x.toArray⟩ : ByteArray).size ≤ 2000)) := by rw [Hid, hsz2]; rfl
      rw [← hsz2] at hsz
      unfold sv at hc
      unfold maxLen at hsz
      clear hcell hsz2 HD
      generalize (⟨x.toArray⟩ : ByteArray) = y at *
      by_cases h1 : (2000 : Int) < (y.size : Int)
      · have HE : Hid (R = false) := by rw [Hid, HO.out, HN.out (by rw [HB.out, decide_eq_false (by omega)])]; rfl
        clear HN HS HB
        go_wp2
        go_ret
        exact ⟨ret_bool HE.out.symm, K.out⟩
      by_cases h3 : (60 : Int) < (s.ds.length : Int)
      · have HE : Hid (R = false) := by rw [Hid, HO.out, decide_eq_false (p := s.ds.length ≤ 60) (by omega)]; simp
        clear HN HS HB
        go_wp2
        go_ret
        exact ⟨ret_bool HE.out.symm, K.out⟩
      have HE := hide (show (s.ds.take (j + 1)).all fewD = true by rw [HS.out, HA.out, HB.out, decide_eq_true (by omega)]; rfl)
      have HL2 : Hid (0 < j + 1 → s.ds.length ≤ 60) := fun _ => by omega
      clear HN HS HB HA HL
      go_wp2
      go_roundw
      case rel => exact ⟨j + 1, by omega, by go_num, HE, HL2, trivial⟩
      case measure => simp [intOf]; omega
    · obtain rfl : j = s.ds.length := by omega
      rw [List.take_length] at HA
      have HE : Hid (R = decide (s.key.n.size ≤ 300)) := by
        rw [Hid, HO.out, HA.out]
        have : s.ds.length ≤ 60 := by
          rcases Nat.eq_zero_or_pos s.ds.length with h | h
          · omega
          · exact HL.out h
        simp [this]
      have hde : decide (s.key.n.size ≤ 300) = decide ((s.key.n.size : Int) ≤ 300) := by by_cases h : s.key.n.size ≤ 300 <;> simp [h] <;> omega
      rw [hde] at HE
      clear hde
      go_wp2
      go_ret
      exact ⟨ret_bool HE.out.symm, K.out⟩

theorem str_neq (x y : List UInt8) : (!(⟨x.toArray⟩ : ByteArray).toList == (⟨y.toArray⟩ : ByteArray).toList) = !decide (x = y) := by
  rw [toList_bl, toList_bl, bl_of, bl_of]
  by_cases h : x = y <;> simp [h]

end Go.Proofs.Ytdlaepfnogmebaa

namespace Go.Proofs.Ytdlaepfnogmebaa
open Go.RowKit

theorem eql_qn (p q : Qn) (w : World) : (binOp .eql 32 (.agg #[.string p.n, .int .i64 p.t, .int .i64 p.c]) (.agg #[.string q.n, .int .i64 q.t, .int .i64 q.c])).run Try.prog w = .ok (.bool (decide (p = q))) w := by
  obtain ⟨a, x, y⟩ := p
  obtain ⟨b, z, u⟩ := q
  simp [go_sem, bytes_eq]
  by_cases h1 : a = b
  · by_cases h2 : x = z
    · by_cases h3 : y = u
      · simp [h1, h2, h3]
      · simp [h1, h2, h3]
    · simp [h1, h2]
  · simp [h1]

set_option maxHeartbeats 4000000 in
set_option maxRecDepth 100000 in
theorem refGSame_any (v u : Value) (s k : St) (w : World) (hv : StAt w v s) (hu : StAt w u k) (hm : s.ds.length ≤ 1099511627776) :
    Calls Try.prog 28 #[v, u] w fun e w' => e = .returned (.bool (decide (s = k))) ∧ Keeps w w' := by
  obtain ⟨vd, rfl, hd⟩ := hv
  obtain ⟨ud, rfl, he⟩ := hu
  have HE := hide (fun W (kk : Keeps w W) => texts_any vd ud s.ds k.ds W (hd.keeps kk) (he.keeps kk) hm)
  have HBE : Hid ((s.ds == k.ds) = decide (s.ds = k.ds)) := by rw [Hid]; by_cases h : s.ds = k.ds <;> simp [h]
  rw [HBE.out] at HE
  have B1 := hide ((Blk.made w #[.string s.key.n, .int .i64 s.key.t, .int .i64 s.key.c, vd, .int .i64 s.ttl] 35).alloc (.cells #[.string k.key.n, .int .i64 k.key.t, .int .i64 k.key.c, ud, .int .i64 k.ttl] 35))
  have B2 := Blk.made (w.alloc (.cells #[.string s.key.n, .int .i64 s.key.t, .int .i64 s.key.c, vd, .int .i64 s.ttl] 35)) #[.string k.key.n, .int .i64 k.key.t, .int .i64 k.key.c, ud, .int .i64 k.ttl] 35
  rw [size_allocG] at B2
  replace B2 := hide B2
  have K := hide (((Keeps.refl w).alloc (.cells #[.string s.key.n, .int .i64 s.key.t, .int .i64 s.key.c, vd, .int .i64 s.ttl] 35)).alloc (.cells #[.string k.key.n, .int .i64 k.key.t, .int .i64 k.key.c, ud, .int .i64 k.ttl] 35))
  have HR : Hid (decide (s = k) = (decide (s.key = k.key) && decide (s.ttl = k.ttl) && decide (s.ds = k.ds))) := by
    obtain ⟨a, b, c⟩ := s
    obtain ⟨d, e, f⟩ := k
    rw [Hid]
    by_cases h1 : a = d <;> by_cases h2 : b = e <;> by_cases h3 : c = f <;> simp [h1, h2, h3]
  have rq := eql_qn s.key k.key
  generalize decide (s = k) = R at *
  generalize decide (s.ds = k.ds) = D at *
  obtain ⟨a1, c1, hs1⟩ := hd.len
  obtain ⟨a2, c2, hs2⟩ := he.len
  subst hs1 hs2
  clear hd he
  go_enter Try.func28, Try.ntmps28
  go_upto_region 1 with fail
  generalize (w.alloc (.cells #[.string s.key.n, .int .i64 s.key.t, .int .i64 s.key.c, .slice a1 s.ds.length c1, .int .i64 s.ttl] 35)).alloc (.cells #[.string k.key.n, .int .i64 k.key.t, .int .i64 k.key.c, .slice a2 k.ds.length c2, .int .i64 k.ttl] 35) = W at *
  generalize w.heap.size + 1 = G2 at *
  obtain ⟨b0, b1, b2, b3, b4, _⟩ := B1.out.five_cells
  obtain ⟨d0, d1, d2, d3, d4, _⟩ := B2.out.five_cells
  by_cases h1 : s.key = k.key
  · rw [decide_eq_true h1] at rq HR
    replace h1 := hide h1
    by_cases h2 : s.ttl = k.ttl
    · rw [decide_eq_true h2] at HR
      have h2b : (s.ttl == k.ttl) = true := by rw [beq_iff_eq]; exact h2
      replace h2 := hide h2
      go_wp2_with fail
      refine (HE.out _ K.out).mono ?_
      rintro e w2 ⟨rfl, k1⟩
      replace K := hide (K.out.trans k1)
      have HZ : Hid (R = D) := by rw [Hid, HR.out]; simp
      go_wp2
      go_ret
      exact ⟨ret_bool HZ.out.symm, K.out⟩
    · rw [decide_eq_false h2] at HR
      have h2b : (s.ttl == k.ttl) = false := by rw [beq_eq_false_iff_ne]; exact h2
      have HZ : Hid (R = false) := by rw [Hid, HR.out]; simp
      replace h2 := hide h2
      go_wp2
      go_ret
      exact ⟨ret_bool HZ.out.symm, K.out⟩
  · rw [decide_eq_false h1] at rq HR
    have HZ : Hid (R = false) := by rw [Hid, HR.out]; simp
    replace h1 := hide h1
    go_wp2
    go_ret
    exact ⟨ret_bool HZ.out.symm, K.out⟩
end Go.Proofs.Ytdlaepfnogmebaa
