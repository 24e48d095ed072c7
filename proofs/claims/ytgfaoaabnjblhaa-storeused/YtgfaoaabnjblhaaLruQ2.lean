/- Lists of questions: cut; and the document's words on them. No condition but lengths. -/
import Derived.Test.YtgfaoaabnjblhaaLruQ
namespace Go.Proofs.Ytgfaoaabnjblhaa
open Go.RowKit

set_option maxHeartbeats 4000000 in
set_option maxRecDepth 100000 in
theorem Cut_q (v : Value) (l : List Qn) (k : Int) (w : World) (hv : ReadRow w v 3 (l.map qnL)) (hl : l.length ≤ 1000000) (hk : -9223372036854775808 ≤ k ∧ k ≤ 9223372036854775807) :
    Calls Try.prog 64 #[v, .int .i64 k] w fun e w' => CutEnd w 32 3 ((l.drop (Lr.cutAt l.length k)).map qnL) ((l.take (Lr.cutAt l.length k)).map qnL) e w' := by
  obtain ⟨a, cap, h1⟩ := hv.len
  rw [List.length_map] at h1
  subst h1
  have hcl := hide (Lr.cutAt_le l.length k)
  have hcv := hide (Lr.cutAt_val l.length k)
  go_enter Try.func64, Try.ntmps64
  obtain ⟨vs, r1, rr1⟩ := slice_lo (t := 57) (e := 32) (by kernel_rfl) (by kernel_rfl) 3 Try.sizeOf32 hv (Lr.cutAt l.length k) (by rw [List.length_map]; exact hcl.out)
  obtain ⟨vt, r2, rr2⟩ := slice_hi (t := 57) (e := 32) (by kernel_rfl) (by kernel_rfl) 3 Try.sizeOf32 hv (Lr.cutAt l.length k) (by rw [List.length_map]; exact hcl.out)
  rw [← List.map_drop] at rr1
  rw [← List.map_take] at rr2
  have HC1 := hide (fun W (kk : Keeps w W) => Clone_q vs _ W (rr1.keeps kk) (fun r hr => by obtain ⟨x, _, rfl⟩ := List.mem_map.1 hr; rfl) (fun r hr u hu => by obtain ⟨x, _, rfl⟩ := List.mem_map.1 hr; exact qnL_ones x u hu) (by simp; omega))
  have HC2 := hide (fun W (kk : Keeps w W) => Clone_q vt _ W (rr2.keeps kk) (fun r hr => by obtain ⟨x, _, rfl⟩ := List.mem_map.1 hr; rfl) (fun r hr u hu => by obtain ⟨x, _, rfl⟩ := List.mem_map.1 hr; exact qnL_ones x u hu) (by simp; omega))
  have KK : Keeps w w.drew := (Keeps.refl _).drew
  clear rr1 rr2 hv
  rw [hcv.out] at r1 r2
  go_upto_region 2 with fail
  clear hcv hcl
  go_region_held3 (fun _ => True) (trivial) ((first | (go_at_call 52; refine (HC1.out _ KK).mono ?_; intro e w5 hE; obtain ⟨va, rfl, ra, k5⟩ := hE; replace ra := ra.le KK.size; replace KK := Keeps.trans KK k5; clear k5 HC1) | (go_at_call 52; refine (HC2.out _ KK).mono ?_; intro e w6 hE; obtain ⟨vb, rfl, rb, k5⟩ := hE; replace rb := rb.le KK.size; replace KK := Keeps.trans KK k5; replace ra := ra.below k5; clear k5 HC2)))
  go_wp2
  go_ret2
  exact CutEnd.mk ra rb KK

set_option maxHeartbeats 4000000 in
set_option maxRecDepth 100000 in
theorem refKeys13_any (v u : Value) (l k : List Qn) (w : World) (hv : ReadRow w v 3 (l.map qnL)) (hu : ReadRow w u 3 (k.map qnL)) (hl : l.length ≤ maxLen) (hk : k.length ≤ maxLen) :
    Calls Try.prog 23 #[v, u] w fun e w' => e = .returned (.bool (decide (l = k))) ∧ Keeps w w' := by
  have hl' := hl
  have hk' := hk
  unfold maxLen at hl' hk'
  obtain ⟨a, cap, h1⟩ := hv.len
  obtain ⟨a2, cap2, h2⟩ := hu.len
  rw [List.length_map] at h1 h2
  subst h1 h2
  by_cases hlen : l.length = k.length
  · have hne : ((l.length : Int) != (k.length : Int)) = false := by rw [hlen]; simp
    go_enter Try.func23, Try.ntmps23
    go_wp2_with fail
    go_loopw [5] (fun i wr => ∃ j : Nat, j ≤ l.length ∧ i = .int .i64 j ∧ Hid (l.take j = k.take j) ∧ Keeps w wr) (fun i _ => l.length - (intOf i).toNat)
    case atStart => exact ⟨0, by omega, rfl, by simp [Hid], Keeps.refl _⟩
    case round =>
      obtain ⟨j, hj, rfl, HA, K⟩ := hrel
      by_cases hlt : j < l.length
      · have hv2 := hv.keeps K
        have hu2 := hu.keeps K
        have hlt2 : j < k.length := by omega
        have i2 : (j : Int) < (l.length : Int) := by omega
        have i3 : (j : Int) < (k.length : Int) := by omega
        have i0 : (0 : Int) ≤ (j : Int) := by omega
        obtain ⟨b, off, rfl, _, _⟩ := hv2.parts (by rw [List.length_map]; omega)
        obtain ⟨b2, off2, rfl, _, _⟩ := hu2.parts (by rw [List.length_map]; omega)
        obtain ⟨c0, c1, c2⟩ := row3 hv2 hlt
        obtain ⟨e0, e1, e2⟩ := row3 hu2 hlt2
        have HS := hide (fun e => take8_step hlt hlt2 HA.out e)
        have HN := hide (fun e => ne_at hlt hlt2 e)
        have rn := neq_qn l[j] k[j]
        generalize hoo : off + j * 3 = o at *
        generalize hoo2 : off2 + j * 3 = o2 at *
        generalize l[j] = x at *
        generalize k[j] = y at *
        clear hv2 hu2 hv hu
        by_cases he : x = y
        · have HE := hide (HS.out he)
          rw [decide_eq_true he] at rn
          clear he HS HN HA
          go_upto_region 6 with fail
          go_region
          go_wp2_with fail
          go_roundw
          case rel => exact ⟨j + 1, by omega, by go_num, HE, K.drew⟩
          case measure => simp [intOf]; omega
        · have HE := hide (HN.out he)
          rw [decide_eq_false he] at rn
          clear he HS HN HA
          go_upto_region 6 with fail
          go_region
          go_wp2
          go_ret
          exact ⟨ret_bool (decide_eq_false HE.out).symm, K.drew⟩
      · obtain rfl : j = l.length := by omega
        have HE : Hid (l = k) := by
          have := HA.out
          rw [List.take_length, hlen, List.take_length] at this
          exact this
        clear HA
        go_wp2
        go_ret
        exact ⟨ret_bool (decide_eq_true HE.out).symm, K⟩
  · have HE := hide (show decide (l = k) = false from decide_eq_false (fun e => hlen (by rw [e])))
    have hli : ¬ ((l.length : Int) = (k.length : Int)) := by omega
    have hbe : ((l.length : Int) != (k.length : Int)) = true := by rw [bne_iff_ne]; exact hli
    clear hv hu hlen
    go_enter Try.func23, Try.ntmps23
    go_wp2
    go_ret
    exact ⟨ret_bool HE.out.symm, Keeps.refl _⟩
end Go.Proofs.Ytgfaoaabnjblhaa
