/- CompChained answers true, for every input: the walk. -/
import Derived.Test.YtknodmcjnadcpaaCompLive
namespace Go.Proofs.Ytknodmcjnadcpaa
open Go.RowKit

/-- The message of base, behind twelve bytes, and of the first j names. -/
def pre12 : List UInt8 := [49, 50, 51, 52, 53, 54, 55, 56, 57, 97, 98, 99]
def chained (b : List UInt8) (ls : List (List UInt8)) (j : Nat) : List UInt8 := pre12 ++ b ++ (ls.take j).flatMap (Cm.wrL b 12)
theorem chained_succ (b : List UInt8) (ls : List (List UInt8)) (j : Nat) (h : j < ls.length) : chained b ls (j + 1) = chained b ls j ++ Cm.wrL b 12 ls[j] := by
  unfold chained
  rw [List.take_succ_eq_append_getElem h]
  simp only [List.flatMap_append, List.flatMap_cons, List.flatMap_nil, List.append_nil, List.append_assoc]
theorem chained_all (b : List UInt8) (ls : List (List UInt8)) (j : Nat) (h : j < ls.length) : ∃ y, chained b ls ls.length = chained b ls j ++ (Cm.wrL b 12 ls[j] ++ y) := by
  refine ⟨(ls.drop (j + 1)).flatMap (Cm.wrL b 12), ?_⟩
  unfold chained
  rw [List.take_length]
  conv => lhs; rw [← List.take_append_drop j ls, List.drop_eq_getElem_cons h]
  simp only [List.flatMap_append, List.flatMap_cons, List.append_assoc]
theorem chained_base (b : List UInt8) (ls : List (List UInt8)) (j : Nat) : (chained b ls j).drop 12 = b ++ (ls.take j).flatMap (Cm.wrL b 12) := by
  unfold chained
  rw [List.append_assoc, List.drop_append_of_le_length (by decide)]
  rfl
theorem chained_least (b : List UInt8) (ls : List (List UInt8)) (j : Nat) : 12 + b.length ≤ (chained b ls j).length := by
  simp only [chained, List.length_append, show pre12.length = 12 from rfl]; omega
theorem wr_le (b n : List UInt8) (hb : Nm.okL b = true) (hn : Nm.okL n = true) : (Cm.wrL b 12 n).length ≤ 255 := by
  have hd : (pre12 ++ b ++ Cm.wrL b 12 n).drop (12 + b.length) = Cm.wrL b 12 n ++ [] := by
    rw [List.append_nil, List.drop_append_of_le_length (by simp [pre12]; omega), List.drop_of_length_le (by simp [pre12]; omega), List.nil_append]
  have hx : (pre12 ++ b ++ Cm.wrL b 12 n).drop 12 = b ++ Cm.wrL b 12 n := by
    rw [List.append_assoc, List.drop_append_of_le_length (by decide)]
    rfl
  obtain ⟨k, _, _, h, _⟩ := Cm.read_written _ b n 12 (12 + b.length) _ _ hb hn (by omega) hx (Nat.le_refl _) hd
  have := ((Nm.okL_spec n).1 hn).1
  omega

def ChRel (bs : ByteArray) (ls : List (List UInt8)) (w : World) (m i : Value) (wr : World) : Prop :=
  ∃ (j : Nat) (M : ByteArray), j ≤ ls.length ∧ m = .string M ∧ i = .int .i64 j ∧ bl M = chained (bl bs) ls j ∧ M.size ≤ 1000 + 255 * j ∧ (∀ k (hk : k < ls.length), k < j → Nm.okL ls[k] = true) ∧ Keeps w wr
theorem ChRel.mk {bs : ByteArray} {ls : List (List UInt8)} {w wr : World} (j : Nat) (M : ByteArray) (h1 : j ≤ ls.length) (h2 : bl M = chained (bl bs) ls j) (h3 : M.size ≤ 1000 + 255 * j) (h4 : ∀ k (hk : k < ls.length), k < j → Nm.okL ls[k] = true) (h5 : Keeps w wr) : ChRel bs ls w (.string M) (.int .i64 j) wr := ⟨j, M, h1, rfl, rfl, h2, h3, h4, h5⟩
def AtRel (bs : ByteArray) (ls : List (List UInt8)) (w : World) (a i : Value) (wr : World) : Prop :=
  ∃ (j : Nat), j ≤ ls.length ∧ a = .int .i64 (chained (bl bs) ls j).length ∧ i = .int .i64 j ∧ Keeps w wr
theorem AtRel.mk {bs : ByteArray} {ls : List (List UInt8)} {w wr : World} {x : Int} (j : Nat) (h1 : j ≤ ls.length) (h2 : x = (chained (bl bs) ls j).length) (h5 : Keeps w wr) : AtRel bs ls w (.int .i64 x) (.int .i64 j) wr := ⟨j, h1, by rw [h2], rfl, h5⟩

set_option maxHeartbeats 2000000 in
set_option maxRecDepth 100000 in
theorem chained_some (bs : ByteArray) (b off cap : Nat) (ls : List (List UInt8)) (w : World) (hbs : bs.size ≤ 300) (h1 : Nm.okL (bl bs) = true) (hb : b < w.heap.size) (hc : ∀ i (h : i < ls.length), w.cell? ⟨b, off + i, none⟩ = some (sv ls[i])) (hl : ls.length ≤ 20) (hs : ∀ x ∈ ls, x.length ≤ maxLen) :
    Calls Try.prog 7 #[.string bs, .slice (some ⟨b, off, none⟩) ls.length cap] w fun e w' => e = .returned (.bool true) ∧ Keeps w w' := by
  have hbm : bs.size ≤ maxLen := by unfold maxLen; omega
  have HC := hide hc
  have HS := hide hs
  have HL := hide hl
  clear hc hs
  have a1 : ∀ w, (Op.stringOp .add ⟨#[49, 50, 51, 52, 53, 54, 55, 56, 57, 97, 98, 99]⟩ bs).run Try.prog w = .ok (.string (⟨#[49, 50, 51, 52, 53, 54, 55, 56, 57, 97, 98, 99]⟩ ++ bs)) w := fun w => run_string_add_sum w _ _ (by rw [show (⟨#[49, 50, 51, 52, 53, 54, 55, 56, 57, 97, 98, 99]⟩ : ByteArray).size = 12 from rfl]; omega)
  have e0 : Hid (bl (⟨#[49, 50, 51, 52, 53, 54, 55, 56, 57, 97, 98, 99]⟩ ++ bs) = chained (bl bs) ls 0) := by
    unfold Hid; rw [bl_append]; simp [chained, pre12]; rfl
  have s0 : Hid ((⟨#[49, 50, 51, 52, 53, 54, 55, 56, 57, 97, 98, 99]⟩ ++ bs).size ≤ 1000) := by
    unfold Hid; rw [ByteArray.size_append, show (⟨#[49, 50, 51, 52, 53, 54, 55, 56, 57, 97, 98, 99]⟩ : ByteArray).size = 12 from rfl]; omega
  generalize (⟨#[49, 50, 51, 52, 53, 54, 55, 56, 57, 97, 98, 99]⟩ : ByteArray) ++ bs = M0 at *
  go_enter Try.func7, Try.ntmps7
  go_wp2_with fail
  refine (refcheck_any _ _ hbm).mono ?_
  rintro e w1 ⟨rfl, k1⟩
  rw [h1]
  go_wp2
  go_loopw [5, 6] (fun m i wr => ChRel bs ls w m i wr) (fun _ i _ => ls.length - (intOf i).toNat)
  case atStart => exact ChRel.mk 0 M0 (by omega) e0.out (by have := s0.out; omega) (fun k hk h => by omega) k1
  case round =>
    obtain ⟨j, M, hj, rfl, rfl, hM, hMs, hok, hk⟩ := hrel
    have HM := hide hM
    have HOK := hide hok
    clear hM hok k1 a1
    by_cases hlt : j < ls.length
    · obtain ⟨X, hX⟩ : ∃ X : ByteArray, bl X = ls[j] := ⟨⟨ls[j].toArray⟩, bl_mk _⟩
      have hcell : wr.cell? ⟨b, off + j, none⟩ = some (.string X) := by
        rw [← sv_bl, hX]
        exact (Below.cell (p := ⟨b, off + j, none⟩) hk hb).trans (HC.out j hlt)
      have hXm : X.size ≤ maxLen := by rw [← bl_length, hX]; exact HS.out ls[j] (List.getElem_mem hlt)
      have hXm' := hXm
      unfold maxLen at hXm'
      have HX := hide hX
      clear hX
      by_cases h300 : (300 : Int) < X.size
      · go_wp2_with fail
        refine (live4_any _).mono ?_
        rintro e w3 ⟨rfl, k3⟩
        go_wp2
        go_ret
        exact ⟨rfl, hk.trans k3⟩
      · cases h2 : Nm.okL (bl X)
        · go_wp2_with fail
          refine (refcheck_any _ _ hXm).mono ?_
          rintro e w2 ⟨rfl, k2⟩
          rw [h2]
          go_wp2_with fail
          refine (live4_any _).mono ?_
          rintro e w3 ⟨rfl, k3⟩
          go_wp2
          go_ret
          exact ⟨rfl, (hk.trans k2).trans k3⟩
        · have hW : bl (wrS bs 12 X) = Cm.wrL (bl bs) 12 (bl X) := by
            rw [wrS, if_pos ((wrOk_spec _ _ _).2 ⟨⟨h1, h2⟩, by omega, by omega⟩)]
            exact bl_mk _
          have hWs : (wrS bs 12 X).size ≤ 255 := by rw [← bl_length, hW]; exact wr_le _ _ h1 h2
          have HW := hide hW
          have a2 : ∀ w, (Op.stringOp .add M (wrS bs 12 X)).run Try.prog w = .ok (.string (M ++ wrS bs 12 X)) w := fun w => run_string_add_sum w _ _ (by omega)
          have HN : Hid (bl (M ++ wrS bs 12 X) = chained (bl bs) ls (j + 1)) := by
            unfold Hid; rw [bl_append, HM.out, hW, chained_succ _ _ _ hlt, HX.out]
          have HNS : Hid ((M ++ wrS bs 12 X).size ≤ 1000 + 255 * (j + 1)) := by
            unfold Hid; rw [ByteArray.size_append]; omega
          clear hW
          generalize M ++ wrS bs 12 X = M2 at *
          go_wp2_with fail
          refine (refcheck_any _ _ hXm).mono ?_
          rintro e w2 ⟨rfl, k2⟩
          have hcell2 : w2.cell? ⟨b, off + j, none⟩ = some (.string X) := by
            rw [← sv_bl, HX.out]
            exact (Below.cell (p := ⟨b, off + j, none⟩) (hk.trans k2) hb).trans (HC.out j hlt)
          rw [h2]
          go_wp2_with fail
          refine (write_any _ _ _ _ hbm hXm).mono ?_
          rintro e w3 ⟨rfl, k3⟩
          go_wp2
          go_roundw
          case rel =>
            refine ChRel.mk (j + 1) M2 (by omega) HN.out HNS.out ?_ ((hk.trans k2).trans k3)
            intro k hk2 hlt2
            rcases (show k < j ∨ k = j by omega) with h | rfl
            · exact HOK.out k hk2 h
            · rw [← HX.out]; exact h2
          case measure => simp [intOf]; omega
    · obtain rfl : j = ls.length := by omega
      have hMm : M.size ≤ maxLen := by unfold maxLen; omega
      have HMZ : Hid ((M.size : Int) = (chained (bl bs) ls ls.length).length) := by
        unfold Hid; rw [← bl_length, HM.out]
      go_wp2
      go_loopw [7, 8] (fun a i wr => AtRel bs ls w a i wr) (fun _ i _ => ls.length - (intOf i).toNat)
      case atStart =>
        refine AtRel.mk 0 (by omega) ?_ hk
        simp [chained, pre12, bl_length]
        omega
      case round =>
        obtain ⟨j, hj2, rfl, rfl, hk2⟩ := hrel
        by_cases hlt2 : j < ls.length
        · obtain ⟨X, hX⟩ : ∃ X : ByteArray, bl X = ls[j] := ⟨⟨ls[j].toArray⟩, bl_mk _⟩
          have hcell : ∀ wz, Keeps w wz → wz.cell? ⟨b, off + j, none⟩ = some (.string X) := fun wz kz => by
            rw [← sv_bl, hX]
            exact (Below.cell (p := ⟨b, off + j, none⟩) kz hb).trans (HC.out j hlt2)
          have HCL := hide hcell
          have hXm : X.size ≤ maxLen := by rw [← bl_length, hX]; exact HS.out ls[j] (List.getElem_mem hlt2)
          have h2 : Nm.okL (bl X) = true := by rw [hX]; exact HOK.out j hlt2 hlt2
          obtain ⟨y, hy⟩ := chained_all (bl bs) ls j hlt2
          have hd : (bl M).drop (chained (bl bs) ls j).length = Cm.wrL (bl bs) 12 (bl X) ++ y := by
            rw [HM.out, hy, hX, List.drop_append_of_le_length (Nat.le_refl _), List.drop_length, List.nil_append]
          have hx12 : (bl M).drop 12 = bl bs ++ (ls.take ls.length).flatMap (Cm.wrL (bl bs) 12) := by rw [HM.out]; exact chained_base _ _ _
          obtain ⟨k, r2, r3, r4, r5⟩ := Cm.read_written _ (bl bs) (bl X) 12 _ _ _ h1 h2 (by omega) hx12 (chained_least _ _ _) hd
          have hsu := chained_succ (bl bs) ls j hlt2
          have hnx : (chained (bl bs) ls (j + 1)).length = (chained (bl bs) ls j).length + (Cm.wrL (bl bs) 12 (bl X)).length := by rw [hsu, List.length_append, hX]
          rw [← hnx] at r2
          have HR := hide r2
          have hks : (rrS ⟨k, (chained (bl bs) ls (j + 1)).length, 0⟩).size ≤ maxLen := by
            have e1 : bl (rrS ⟨k, (chained (bl bs) ls (j + 1)).length, 0⟩) = k := bl_mk k
            rw [← bl_length, e1, Cm.same_length r3, bl_length]; exact hXm
          have HSM : Hid (Nm.sameB (bl (rrS ⟨k, (chained (bl bs) ls (j + 1)).length, 0⟩)) (bl X) = true) := by
            have e1 : bl (rrS ⟨k, (chained (bl bs) ls (j + 1)).length, 0⟩) = k := bl_mk k
            unfold Hid; rw [e1]; exact r3
          have hlim : ((chained (bl bs) ls j).length : Int) ≤ 9223372036854775807 := by
            have h5 : (chained (bl bs) ls ls.length).length = M.size := by rw [← HM.out, bl_length]
            rw [hy, List.length_append] at h5
            omega
          have hgo : ((chained (bl bs) ls j).length : Int) < ((chained (bl bs) ls (j + 1)).length : Int) := by omega
          generalize hK : rrS ⟨k, (chained (bl bs) ls (j + 1)).length, 0⟩ = K at *
          have HK := hide hK
          clear hK hy hd hx12 r2 r3 r4 r5 hsu hnx hX hcell h2
          have hcell1 := HCL.out _ hk2
          go_wp2_with fail
          refine (read_any _ _ _ hMm hlim).mono ?_
          rintro e w2 ⟨rfl, k2⟩
          have hcell2 := HCL.out _ (hk2.trans k2)
          rw [HR.out, HK.out, show Cm.RR.next ⟨k, (chained (bl bs) ls (j + 1)).length, 0⟩ = (chained (bl bs) ls (j + 1)).length from rfl, show Cm.RR.e ⟨k, (chained (bl bs) ls (j + 1)).length, 0⟩ = 0 from rfl]
          go_wp2_with fail
          refine (refsame_any _ _ _ hks hXm).mono ?_
          rintro e w3 ⟨rfl, k3⟩
          rw [HSM.out]
          generalize hz2 : ((chained (bl bs) ls (j + 1)).length : Int) = Z2 at hgo ⊢
          generalize ((chained (bl bs) ls j).length : Int) = Z1 at hgo hlim ⊢
          have HZ := hide hz2
          clear hz2 hlim hcell1 hcell2 hks
          go_wp2
          go_roundw
          case rel => exact AtRel.mk (j + 1) (by omega) HZ.out.symm ((hk2.trans k2).trans k3)
          case measure => simp [intOf]; omega
        · obtain rfl : j = ls.length := by omega
          have hz : (((chained (bl bs) ls ls.length).length : Int) == (M.size : Int)) = true := by rw [HMZ.out]; simp
          generalize ((chained (bl bs) ls ls.length).length : Int) = Z at *
          go_wp2_with fail
          refine (live4_any _).mono ?_
          rintro e w3 ⟨rfl, k3⟩
          go_wp2
          go_ret
          exact ⟨rfl, hk2.trans k3⟩

set_option maxHeartbeats 800000 in
theorem chained_nil (bs : ByteArray) (a : Option Addr) (cap : Nat) (w : World) (hbs : bs.size ≤ 300) (h1 : Nm.okL (bl bs) = true) :
    Calls Try.prog 7 #[.string bs, .slice a 0 cap] w fun e w' => e = .returned (.bool true) ∧ Keeps w w' := by
  have hbm : bs.size ≤ maxLen := by unfold maxLen; omega
  have a1 : ∀ w, (Op.stringOp .add ⟨#[49, 50, 51, 52, 53, 54, 55, 56, 57, 97, 98, 99]⟩ bs).run Try.prog w = .ok (.string (⟨#[49, 50, 51, 52, 53, 54, 55, 56, 57, 97, 98, 99]⟩ ++ bs)) w := fun w => run_string_add_sum w _ _ (by rw [show (⟨#[49, 50, 51, 52, 53, 54, 55, 56, 57, 97, 98, 99]⟩ : ByteArray).size = 12 from rfl]; omega)
  have s0 : (⟨#[49, 50, 51, 52, 53, 54, 55, 56, 57, 97, 98, 99]⟩ ++ bs).size = 12 + bs.size := by
    rw [ByteArray.size_append]; rfl
  generalize (⟨#[49, 50, 51, 52, 53, 54, 55, 56, 57, 97, 98, 99]⟩ : ByteArray) ++ bs = M0 at *
  go_enter Try.func7, Try.ntmps7
  go_wp2_with fail
  refine (refcheck_any _ _ hbm).mono ?_
  rintro e w1 ⟨rfl, k1⟩
  rw [h1]
  go_wp2
  refine wp_loop_rounds 1 ?_
  rw [rounds_succ]
  go_wp2
  refine wp_loop_rounds 1 ?_
  rw [rounds_succ]
  go_wp2_with fail
  refine (live4_any _).mono ?_
  rintro e w3 ⟨rfl, k3⟩
  go_wp2
  go_ret
  exact ⟨rfl, k1.trans k3⟩

set_option maxHeartbeats 800000 in
theorem chained_no (bs : ByteArray) (a : Option Addr) (n cap : Nat) (w : World) (hbm : bs.size ≤ maxLen) (hn : n ≤ maxLen) (h : 300 < (bs.size : Int) ∨ 20 < (n : Int) ∨ Nm.okL (bl bs) = false) :
    Calls Try.prog 7 #[.string bs, .slice a n cap] w fun e w' => e = .returned (.bool true) ∧ Keeps w w' := by
  have hb' := hbm
  have hn' := hn
  unfold maxLen at hb' hn'
  by_cases l1 : 300 < (bs.size : Int)
  · clear h
    go_enter Try.func7, Try.ntmps7
    go_wp2_with (go_at_call 9; refine (live4_any _).mono ?_; rintro e w3 ⟨rfl, k3⟩)
    go_ret
    exact ⟨rfl, by assumption⟩
  by_cases l2 : 20 < (n : Int)
  · clear h
    go_enter Try.func7, Try.ntmps7
    go_wp2_with (go_at_call 9; refine (live4_any _).mono ?_; rintro e w3 ⟨rfl, k3⟩)
    go_ret
    exact ⟨rfl, by assumption⟩
  have h1 := (h.resolve_left l1).resolve_left l2
  clear h
  go_enter Try.func7, Try.ntmps7
  go_wp2_with fail
  refine (refcheck_any _ _ hbm).mono ?_
  rintro e w1 ⟨rfl, k1⟩
  rw [h1]
  go_wp2_with fail
  refine (live4_any _).mono ?_
  rintro e w3 ⟨rfl, k3⟩
  go_wp2
  go_ret
  exact ⟨rfl, k1.trans k3⟩

theorem CompChained_walk (bs : ByteArray) (v : Value) (ls : List (List UInt8)) (w : World) (hb : bs.size ≤ maxLen) (h : IsStrs w v ls) :
    Calls Try.prog 7 #[.string bs, v] w fun e w' => e = .returned (.bool true) ∧ Keeps w w' := by
  obtain ⟨hr, hl, hs⟩ := h
  by_cases hno : 300 < (bs.size : Int) ∨ 20 < (ls.length : Int) ∨ Nm.okL (bl bs) = false
  · obtain ⟨a, cap, rfl⟩ := hr.len
    exact chained_no bs a ls.length cap w hb hl hno
  · simp only [not_or, Bool.not_eq_false] at hno
    obtain ⟨n1, n2, n3⟩ := hno
    by_cases h0 : 0 < ls.length
    · obtain ⟨b, off, cap, rfl, hlt, hc, _⟩ := hr.parts h0
      exact chained_some bs b off cap ls w (by omega) n3 hlt hc (by omega) hs
    · obtain ⟨a, cap, rfl⟩ := hr.len
      obtain rfl : ls = [] := List.length_eq_zero_iff.1 (by omega)
      exact chained_nil bs a cap w (by omega) n3
end Go.Proofs.Ytknodmcjnadcpaa
