/- What Record and Code of the document's answer for layer 9 tell. No condition. -/
import Derived.Test.YtojihkejlmggcaaDoorEdns2
namespace Go.Proofs.YtojihkejlmggcaaDoor
open Go.RowKit

set_option maxHeartbeats 4000000 in
set_option maxRecDepth 100000 in
theorem refrecord_any (o : Op) (w : World) :
    Calls Tryd.prog 13 #[opV o] w fun e w' => e = .returned (.tuple #[recV (opRec o), .bool (opOk o)]) ∧ Keeps w w' := by
  obtain ⟨h, s, x, v, d⟩ := o
  have HO := hide (show opOk ⟨h, s, x, v, d⟩ = (h && fitB s 65535 && fitB x 127 && fitB v 255) from rfl)
  have HR := hide (show opRec ⟨h, s, x, v, d⟩ = if opOk ⟨h, s, x, v, d⟩ then ⟨⟨#[0]⟩, 41, s, x * 16777216 + v * 65536 + (if d then 32768 else 0), ⟨#[]⟩⟩ else noRec from rfl)
  generalize opRec ⟨h, s, x, v, d⟩ = R at *
  generalize opOk ⟨h, s, x, v, d⟩ = O at *
  unfold opV
  have B := hide ((Blk.made w #[.bool h, .int .i64 s, .int .i64 x, .int .i64 v, .bool d] 33).alloc (.cells #[.string ⟨#[]⟩, .int .i64 0, .int .i64 0, .int .i64 0, .string ⟨#[]⟩] 37))
  have B2 := Blk.made (w.alloc (.cells #[.bool h, .int .i64 s, .int .i64 x, .int .i64 v, .bool d] 33)) #[.string ⟨#[]⟩, .int .i64 0, .int .i64 0, .int .i64 0, .string ⟨#[]⟩] 37
  rw [size_alloc] at B2
  replace B2 := hide B2
  have K := hide (((Keeps.refl w).alloc (.cells #[.bool h, .int .i64 s, .int .i64 x, .int .i64 v, .bool d] 33)).alloc (.cells #[.string ⟨#[]⟩, .int .i64 0, .int .i64 0, .int .i64 0, .string ⟨#[]⟩] 37))
  go_enter Tryd.func13, Tryd.ntmps13
  go_upto_region 1 with fail
  generalize (w.alloc (.cells #[.bool h, .int .i64 s, .int .i64 x, .int .i64 v, .bool d] 33)).alloc (.cells #[.string ⟨#[]⟩, .int .i64 0, .int .i64 0, .int .i64 0, .string ⟨#[]⟩] 37) = W at *
  have hle : w.heap.size ≤ w.heap.size + 1 := Nat.le_succ _
  have hne : w.heap.size ≠ w.heap.size + 1 := by omega
  generalize w.heap.size + 1 = G2 at *
  obtain ⟨b0, b1, b2, b3, b4, _, _, _, _, _, _⟩ := B.out.cell5
  obtain ⟨c0, c1, c2, c3, c4, f0, f1, f2, f3, f4, glt⟩ := B2.out.cell5
  have HK := hide (fun a b c d e => Keeps.five K.out hle a b c d e)
  clear B B2 K hle
  generalize w.heap.size = G at *
  by_cases hok : (h && fitB s 65535 && fitB x 127 && fitB v 255) = true
  · rw [hok] at HO
    obtain rfl := HO.out
    have HR2 := hide (HR.out.trans (if_pos rfl))
    clear HR HO
    simp only [Bool.and_eq_true] at hok
    obtain ⟨⟨⟨rfl, h1⟩, h2⟩, h3⟩ := hok
    obtain ⟨g1, g2⟩ : 0 ≤ s ∧ s ≤ 65535 := by simpa [fitB] using h1
    obtain ⟨g3, g4⟩ : 0 ≤ x ∧ x ≤ 127 := by simpa [fitB] using h2
    obtain ⟨g5, g6⟩ : 0 ≤ v ∧ v ≤ 255 := by simpa [fitB] using h3
    clear h1 h2 h3
    cases d
    · go_wp2_with fail
      refine bodyPost_ret (v := .tuple #[.agg #[.string ⟨#[0]⟩, .int .i64 41, .int .i64 s, .int .i64 (x * 16777216 + v * 65536), .string ⟨#[]⟩], .bool true]) (by simp [results, Tryd.results13, go_sem, c0, c1, c2, c3, c4]) rfl ⟨?_, HK.out _ _ _ _ _⟩
      rw [HR2.out]
      simp [recV]
    · go_wp2_with fail
      refine bodyPost_ret (v := .tuple #[.agg #[.string ⟨#[0]⟩, .int .i64 41, .int .i64 s, .int .i64 (x * 16777216 + v * 65536 + 32768), .string ⟨#[]⟩], .bool true]) (by simp [results, Tryd.results13, go_sem, c0, c1, c2, c3, c4]) rfl ⟨?_, HK.out _ _ _ _ _⟩
      rw [HR2.out]
      simp [recV]
  · simp only [Bool.not_eq_true] at hok
    rw [hok] at HO
    obtain rfl := HO.out
    have HR2 := hide (HR.out.trans (if_neg (by simp)))
    clear HR HO
    have HV : Hid (recV R = .agg #[.string ⟨#[]⟩, .int .i64 0, .int .i64 0, .int .i64 0, .string ⟨#[]⟩]) := by rw [HR2.out]; rfl
    clear HR2
    have HE : Hid (∀ (W' : World), Keeps w W' → Ending.returned (.tuple #[.agg #[.string ⟨#[]⟩, .int .i64 0, .int .i64 0, .int .i64 0, .string ⟨#[]⟩], .bool false]) = Ending.returned (.tuple #[recV R, .bool false]) ∧ Keeps w W') := fun W' k => ⟨by rw [HV.out], k⟩
    have HN := hide hok
    clear hok
    cases h
    · go_wp2_with fail
      exact bodyPost_ret (v := .tuple #[.agg #[.string ⟨#[]⟩, .int .i64 0, .int .i64 0, .int .i64 0, .string ⟨#[]⟩], .bool false]) (by simp [results, Tryd.results13, go_sem, c0, c1, c2, c3, c4]) rfl (HE.out _ (HK.out _ _ _ _ _))
    by_cases q0 : s < 0
    · go_wp2_with fail
      exact bodyPost_ret (v := .tuple #[.agg #[.string ⟨#[]⟩, .int .i64 0, .int .i64 0, .int .i64 0, .string ⟨#[]⟩], .bool false]) (by simp [results, Tryd.results13, go_sem, c0, c1, c2, c3, c4]) rfl (HE.out _ (HK.out _ _ _ _ _))
    by_cases q1 : 65535 < s
    · go_wp2_with fail
      exact bodyPost_ret (v := .tuple #[.agg #[.string ⟨#[]⟩, .int .i64 0, .int .i64 0, .int .i64 0, .string ⟨#[]⟩], .bool false]) (by simp [results, Tryd.results13, go_sem, c0, c1, c2, c3, c4]) rfl (HE.out _ (HK.out _ _ _ _ _))
    by_cases q2 : x < 0
    · go_wp2_with fail
      exact bodyPost_ret (v := .tuple #[.agg #[.string ⟨#[]⟩, .int .i64 0, .int .i64 0, .int .i64 0, .string ⟨#[]⟩], .bool false]) (by simp [results, Tryd.results13, go_sem, c0, c1, c2, c3, c4]) rfl (HE.out _ (HK.out _ _ _ _ _))
    by_cases q3 : 127 < x
    · go_wp2_with fail
      exact bodyPost_ret (v := .tuple #[.agg #[.string ⟨#[]⟩, .int .i64 0, .int .i64 0, .int .i64 0, .string ⟨#[]⟩], .bool false]) (by simp [results, Tryd.results13, go_sem, c0, c1, c2, c3, c4]) rfl (HE.out _ (HK.out _ _ _ _ _))
    by_cases q4 : v < 0
    · go_wp2_with fail
      exact bodyPost_ret (v := .tuple #[.agg #[.string ⟨#[]⟩, .int .i64 0, .int .i64 0, .int .i64 0, .string ⟨#[]⟩], .bool false]) (by simp [results, Tryd.results13, go_sem, c0, c1, c2, c3, c4]) rfl (HE.out _ (HK.out _ _ _ _ _))
    have q5 : 255 < v := by
      have h := HN.out
      simp [fitB] at h
      omega
    go_wp2_with fail
    exact bodyPost_ret (v := .tuple #[.agg #[.string ⟨#[]⟩, .int .i64 0, .int .i64 0, .int .i64 0, .string ⟨#[]⟩], .bool false]) (by simp [results, Tryd.results13, go_sem, c0, c1, c2, c3, c4]) rfl (HE.out _ (HK.out _ _ _ _ _))

set_option maxRecDepth 100000 in
theorem refcode_any (b : Int) (o : Op) (w : World) (hx : -1099511627776 ≤ o.ext ∧ o.ext ≤ 1099511627776) :
    Calls Tryd.prog 17 #[.int .i64 b, opV o] w fun e w' => e = .returned (.int .i64 (opCode b o)) ∧ Keeps w w' := by
  obtain ⟨h, s, x, v, d⟩ := o
  simp only at hx
  have HF := hide (show opCode b ⟨h, s, x, v, d⟩ = Fl.of 8 b + if h then 16 * x else 0 from rfl)
  have hb := of_bound 8 b
  unfold opV
  have K := hide ((Keeps.refl w).alloc (.cells #[.bool h, .int .i64 s, .int .i64 x, .int .i64 v, .bool d] 33))
  have B := hide (Blk.made w #[.bool h, .int .i64 s, .int .i64 x, .int .i64 v, .bool d] 33)
  generalize opCode b ⟨h, s, x, v, d⟩ = R at *
  go_enter Tryd.func17, Tryd.ntmps17
  go_wp2_with fail
  generalize w.alloc (.cells #[.bool h, .int .i64 s, .int .i64 x, .int .i64 v, .bool d] 33) = W at *
  generalize w.heap.size = G at *
  refine (refof_any _ _ _).mono ?_
  rintro e w1 ⟨rfl, k1⟩
  replace B := B.out.keeps k1
  replace K := hide (K.out.trans k1)
  clear k1
  obtain ⟨c0, c1, c2, c3, c4, _, _, _, _, _, _⟩ := B.cell5
  generalize Fl.of 8 b = F at *
  clear B
  cases h
  · go_wp2
    go_ret
    exact ⟨ret_int (by rw [HF.out]; simp), K.out⟩
  · go_wp2
    go_ret
    exact ⟨ret_int (by rw [HF.out]; simp), K.out⟩
end Go.Proofs.YtojihkejlmggcaaDoor
