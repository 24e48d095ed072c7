/- The document's From of records. No condition but lengths. -/
import Derived.Test.YtdfhojhljfcolaaGrpT
namespace Go.Proofs.Ytdfhojhljfcolaa
open Go.RowKit

def FrRel (w : World) (l : List Rec) (v i : Value) (wr : World) : Prop :=
  ∃ j : Nat, j ≤ l.length ∧ i = .int .i64 j ∧ (∃ ss, ss.map (·.1) = fromM (l.take j) ∧ SetsOwn wr w.heap.size v ss) ∧ Keeps w wr

set_option maxHeartbeats 4000000 in
set_option maxRecDepth 100000 in
theorem refFrom_any (v : Value) (l : List Rec) (w : World) (hv : ReadRow w v 5 (l.map recL8)) (hl : l.length ≤ 1000000) (hf : ∀ x ∈ l, x.n.size ≤ maxLen ∧ x.d.size ≤ maxLen) :
    Calls Try.prog 15 #[v] w fun e w' => SetsEnd w (fromM l) e w' := by
  obtain ⟨a, cap, h1⟩ := hv.len
  rw [List.length_map] at h1
  subst h1
  have HV := hide hv
  have HF := hide hf
  clear hv hf
  go_enter Try.func15, Try.ntmps15
  go_wp2_with fail
  go_loopw [3, 4] (fun v i wr => FrRel w l v i wr) (fun _ i _ => l.length - (intOf i).toNat)
  case atStart => exact ⟨0, by omega, rfl, ⟨[], rfl, SetsOwn.nil _ _⟩, Keeps.refl _⟩
  case round =>
    obtain ⟨j, hj, rfl, ⟨ss, hss, hO⟩, K⟩ := hrel
    replace hO := hide hO
    replace K := hide K
    by_cases hlt : j < l.length
    · have i2 : (j : Int) < (l.length : Int) := by omega
      have i0 : (0 : Int) ≤ (j : Int) := by omega
      have hv2 := HV.out.keeps K.out
      obtain ⟨b, off, rfl, hb0, _⟩ := hv2.parts (by rw [List.length_map]; omega)
      obtain ⟨c0, c1, c2, c3, c4⟩ := row5 hv2 hlt
      obtain ⟨fn, fd⟩ := HF.out _ (List.getElem_mem hlt)
      have HST := hide (from_step l j hlt)
      obtain ⟨hn1, hn2⟩ := from_len (l.take j)
      rw [List.length_take] at hn1 hn2
      rw [← hss] at HST hn1 hn2
      rw [List.length_map] at hn1
      replace hss := hide hss
      generalize hoo : off + j * 5 = o at *
      generalize l[j] = r at *
      have HRC := fun W => refrcheck_any r W fn fd
      simp only [recV] at HRC
      replace HRC := hide HRC
      clear hv2
      go_wp2_with fail
      refine (HRC.out _).mono ?_
      rintro e w2 ⟨rfl, k1⟩
      replace hO := hide (hO.out.below k1)
      replace K := hide (K.out.trans k1)
      replace c0 := (Below.cell (p := ⟨b, o, none⟩) k1 hb0).trans c0
      replace c1 := (Below.cell (p := ⟨b, o + 1, none⟩) k1 hb0).trans c1
      replace c2 := (Below.cell (p := ⟨b, o + 2, none⟩) k1 hb0).trans c2
      replace c3 := (Below.cell (p := ⟨b, o + 3, none⟩) k1 hb0).trans c3
      replace c4 := (Below.cell (p := ⟨b, o + 4, none⟩) k1 hb0).trans c4
      clear k1 HRC
      cases hok : recOk r
      · have HN : Hid (ss.map (·.1) = fromM (l.take (j + 1))) := by rw [Hid, HST.out, stepM, usedB, hok]; simp
        go_wp2_with fail
        go_roundw
        case rel => exact ⟨j + 1, by omega, by go_num, ⟨ss, HN.out, hO.out⟩, K.out⟩
        case measure => simp [intOf]; omega
      by_cases h41 : r.t = 41
      · have HN : Hid (ss.map (·.1) = fromM (l.take (j + 1))) := by rw [Hid, HST.out, stepM, usedB, hok, h41]; simp
        have h41b : (r.t != 41) = false := by rw [h41]; rfl
        replace h41 := hide h41
        go_wp2_with fail
        go_roundw
        case rel => exact ⟨j + 1, by omega, by go_num, ⟨ss, HN.out, hO.out⟩, K.out⟩
        case measure => simp [intOf]; omega
      · have HN : Hid (layM (keyM r) r.l (lowR r) (ss.map (·.1)) = fromM (l.take (j + 1))) := by rw [Hid, HST.out, stepM, usedB, hok, decide_eq_true h41]; simp
        have h41b : (r.t != 41) = true := by rw [bne_iff_ne]; exact h41
        replace h41 := hide h41
        have HLY := refLay_any _ ss r w.heap.size w2 K.out.size hO.out fn fd (by omega) (fun x hx => by have := hn2 x.1 (List.mem_map_of_mem hx); omega)
        simp only [recV] at HLY
        rw [HN.out] at HLY
        replace HLY := hide HLY
        go_wp2_with fail
        refine (HLY.out).mono ?_
        intro e w3 hE
        obtain ⟨v3, s3, rfl, O3, e3, k3⟩ := hE
        have K3 := hide (show Keeps w w3 from Below.trans K.out k3)
        replace O3 := hide O3
        replace e3 := hide e3
        clear k3 HLY hO K c0 c1 c2 c3 c4
        go_wp2_with fail
        go_roundw
        case rel => exact ⟨j + 1, by omega, by go_num, ⟨s3, e3.out, O3.out⟩, K3.out⟩
        case measure => simp [intOf]; omega
    · obtain rfl : j = l.length := by omega
      rw [List.take_length] at hss
      have HR : Hid (SetsAt wr _ (fromM l)) := hss ▸ hO.out.read
      clear hO
      go_wp2
      go_ret
      exact SetsEnd.mk HR.out K.out
end Go.Proofs.Ytdfhojhljfcolaa
