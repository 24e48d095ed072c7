/- The examples that the statements of layer 6 ask for answer true. -/
import Derived.Test.YthoominldliphaaRecRef1
namespace Go.Proofs.Ythoominldliphaa
open Go.RowKit

theorem small_max6 (s : ByteArray) (h : s.size ≤ 100) : s.size ≤ maxLen := by unfold maxLen; omega
theorem dr_is {d : DR} {r : Rec} {n e : Nat} (h1 : d.r = r) (h2 : d.next = n) (h3 : d.e = e) : d = ⟨r, n, e⟩ := by
  cases d; simp only at h1 h2 h3; subst h1 h2 h3; rfl

set_option maxHeartbeats 4000000 in
theorem live6_any (w : World) : Calls Try.prog 8 #[] w fun e w' => e = .returned (.bool true) ∧ Keeps w w' := by
  have a0 : encS ⟨#[1, 65, 0]⟩ 12 ⟨⟨#[1, 88, 1, 97, 0]⟩, 1, 1, 300, ⟨#[97, 98, 99, 100]⟩⟩ = ⟨#[1, 88, 192, 12, 0, 1, 0, 1, 0, 0, 1, 44, 0, 4, 97, 98, 99, 100]⟩ := by decide +kernel
  have a1 : (⟨#[49, 50, 51, 52, 53, 54, 55, 56, 57, 97, 98, 99, 1, 65, 0]⟩ : ByteArray) ++ ⟨#[1, 88, 192, 12, 0, 1, 0, 1, 0, 0, 1, 44, 0, 4, 97, 98, 99, 100]⟩ = ⟨#[49, 50, 51, 52, 53, 54, 55, 56, 57, 97, 98, 99, 1, 65, 0, 1, 88, 192, 12, 0, 1, 0, 1, 0, 0, 1, 44, 0, 4, 97, 98, 99, 100]⟩ := by decide +kernel
  have a2 : (⟨#[49, 50, 51, 52, 53, 54, 55, 56, 57, 97, 98, 99, 1, 65, 0, 1, 88, 192, 12, 0, 1, 0, 1, 0, 0, 1, 44, 0, 4, 97, 98, 99, 100]⟩ : ByteArray) ++ ⟨#[122]⟩ = ⟨#[49, 50, 51, 52, 53, 54, 55, 56, 57, 97, 98, 99, 1, 65, 0, 1, 88, 192, 12, 0, 1, 0, 1, 0, 0, 1, 44, 0, 4, 97, 98, 99, 100, 122]⟩ := by decide +kernel
  have b1 : (decR ⟨#[49, 50, 51, 52, 53, 54, 55, 56, 57, 97, 98, 99, 1, 65, 0, 1, 88, 192, 12, 0, 1, 0, 1, 0, 0, 1, 44, 0, 4, 97, 98, 99, 100, 122]⟩ 15).r = ⟨⟨#[1, 88, 1, 65, 0]⟩, 1, 1, 300, ⟨#[97, 98, 99, 100]⟩⟩ := by decide +kernel
  have b2 : (decR ⟨#[49, 50, 51, 52, 53, 54, 55, 56, 57, 97, 98, 99, 1, 65, 0, 1, 88, 192, 12, 0, 1, 0, 1, 0, 0, 1, 44, 0, 4, 97, 98, 99, 100, 122]⟩ 15).next = 33 := by decide +kernel
  have b3 : (decR ⟨#[49, 50, 51, 52, 53, 54, 55, 56, 57, 97, 98, 99, 1, 65, 0, 1, 88, 192, 12, 0, 1, 0, 1, 0, 0, 1, 44, 0, 4, 97, 98, 99, 100, 122]⟩ 15).e = 0 := by decide +kernel
  have c1 : (decR ⟨#[0, 0, 1]⟩ 0).r = noRec := by decide +kernel
  have c2 : (decR ⟨#[0, 0, 1]⟩ 0).next = 0 := by decide +kernel
  have c3 : (decR ⟨#[0, 0, 1]⟩ 0).e = 2 := by decide +kernel
  have d1 : ttlAt ⟨#[1, 65, 0]⟩ 12 ⟨⟨#[1, 88, 1, 97, 0]⟩, 1, 1, 300, ⟨#[97, 98, 99, 100]⟩⟩ = 8 := by decide +kernel
  have d2 : recOk ⟨⟨#[1, 88, 1, 97, 0]⟩, 1, 1, 300, ⟨#[97, 98, 99, 100]⟩⟩ = true := by decide +kernel
  have d3 : recOk noRec = false := by decide +kernel
  have d4 : encS ⟨#[0]⟩ 12 noRec = ⟨#[]⟩ := by decide +kernel
  have d5 : ttlAt ⟨#[0]⟩ 12 noRec = -1 := by decide +kernel
  have mB : (⟨#[1, 65, 0]⟩ : ByteArray).size ≤ maxLen := small_max6 _ (by decide)
  have m0 : (⟨#[0]⟩ : ByteArray).size ≤ maxLen := small_max6 _ (by decide)
  have mE : (⟨#[]⟩ : ByteArray).size ≤ maxLen := small_max6 _ (by decide)
  have mN : (⟨#[1, 88, 1, 97, 0]⟩ : ByteArray).size ≤ maxLen := small_max6 _ (by decide)
  have mD : (⟨#[97, 98, 99, 100]⟩ : ByteArray).size ≤ maxLen := small_max6 _ (by decide)
  have B1 := Box5.made w (.string ⟨#[1, 88, 1, 97, 0]⟩) (.int .i64 1) (.int .i64 1) (.int .i64 300) (.string ⟨#[97, 98, 99, 100]⟩) 24
  have K := (Keeps.refl w).alloc (.cells #[.string ⟨#[1, 88, 1, 97, 0]⟩, .int .i64 1, .int .i64 1, .int .i64 300, .string ⟨#[97, 98, 99, 100]⟩] 24)
  go_enter Try.func8, Try.ntmps8
  go_wp2_with fail
  refine (encode_any _ _ ⟨⟨#[1, 88, 1, 97, 0]⟩, 1, 1, 300, ⟨#[97, 98, 99, 100]⟩⟩ _ mB mN (by decide)).mono ?_
  rintro e w1 ⟨rfl, k1⟩
  replace K := K.trans k1
  replace B1 := B1.keeps k1
  clear k1
  rw [a0]
  generalize w.heap.size = G at *
  obtain ⟨x0, x1, x2, x3, x4, x5⟩ := B1
  go_wp2_with fail
  refine (decode_any ⟨#[49, 50, 51, 52, 53, 54, 55, 56, 57, 97, 98, 99, 1, 65, 0, 1, 88, 192, 12, 0, 1, 0, 1, 0, 0, 1, 44, 0, 4, 97, 98, 99, 100, 122]⟩ 15 _ (by decide) (by decide)).mono ?_
  rintro e w2 ⟨rfl, k1⟩
  replace K := K.trans k1
  have B1 := Box5.keeps ⟨x0, x1, x2, x3, x4, x5⟩ k1
  clear k1 x0 x1 x2 x3 x4 x5
  rw [dr_is b1 b2 b3]
  unfold decV recV
  have B2 := Box5.made w2 (.string ⟨#[1, 88, 1, 65, 0]⟩) (.int .i64 1) (.int .i64 1) (.int .i64 300) (.string ⟨#[97, 98, 99, 100]⟩) 24
  have k2 := (Keeps.refl w2).alloc (.cells #[.string ⟨#[1, 88, 1, 65, 0]⟩, .int .i64 1, .int .i64 1, .int .i64 300, .string ⟨#[97, 98, 99, 100]⟩] 24)
  replace K := K.trans k2
  replace B1 := B1.keeps k2
  clear k2
  go_wp2_with fail
  generalize w2.alloc (.cells #[.string ⟨#[1, 88, 1, 65, 0]⟩, .int .i64 1, .int .i64 1, .int .i64 300, .string ⟨#[97, 98, 99, 100]⟩] 24) = W2 at *
  generalize w2.heap.size = G2 at *
  refine (decode_any _ _ _ (by decide) (by decide)).mono ?_
  rintro e w3 ⟨rfl, k1⟩
  rw [dr_is c1 c2 c3]
  unfold decV recV noRec
  have k3 := k1.alloc (.cells #[.string ⟨#[]⟩, .int .i64 0, .int .i64 0, .int .i64 0, .string ⟨#[]⟩] 24)
  replace K := K.trans k3
  replace B1 := B1.keeps k3
  replace B2 := B2.keeps k3
  clear k1 k3
  obtain ⟨x0, x1, x2, x3, x4, x5⟩ := B1
  obtain ⟨y0, y1, y2, y3, y4, y5⟩ := B2
  go_wp2_with fail
  generalize w3.alloc (.cells #[.string ⟨#[]⟩, .int .i64 0, .int .i64 0, .int .i64 0, .string ⟨#[]⟩] 24) = W3 at *
  refine (ttl_any _ _ ⟨⟨#[1, 88, 1, 97, 0]⟩, 1, 1, 300, ⟨#[97, 98, 99, 100]⟩⟩ _ mB mN mD).mono ?_
  rintro e wk ⟨rfl, k1⟩
  replace K := K.trans k1
  have B1 := Box5.keeps ⟨x0, x1, x2, x3, x4, x5⟩ k1
  have B2 := Box5.keeps ⟨y0, y1, y2, y3, y4, y5⟩ k1
  clear k1 x0 x1 x2 x3 x4 x5 y0 y1 y2 y3 y4 y5
  obtain ⟨x0, x1, x2, x3, x4, x5⟩ := B1
  obtain ⟨y0, y1, y2, y3, y4, y5⟩ := B2
  rw [d1]
  go_wp2_with fail
  refine (rcheck_any ⟨⟨#[1, 88, 1, 97, 0]⟩, 1, 1, 300, ⟨#[97, 98, 99, 100]⟩⟩ _ mN mD).mono ?_
  rintro e wk ⟨rfl, k1⟩
  replace K := K.trans k1
  have B1 := Box5.keeps ⟨x0, x1, x2, x3, x4, x5⟩ k1
  have B2 := Box5.keeps ⟨y0, y1, y2, y3, y4, y5⟩ k1
  clear k1 x0 x1 x2 x3 x4 x5 y0 y1 y2 y3 y4 y5
  obtain ⟨x0, x1, x2, x3, x4, x5⟩ := B1
  obtain ⟨y0, y1, y2, y3, y4, y5⟩ := B2
  rw [d2]
  go_wp2_with fail
  refine (rcheck_any noRec _ mE mE).mono ?_
  rintro e wk ⟨rfl, k1⟩
  replace K := K.trans k1
  have B1 := Box5.keeps ⟨x0, x1, x2, x3, x4, x5⟩ k1
  have B2 := Box5.keeps ⟨y0, y1, y2, y3, y4, y5⟩ k1
  clear k1 x0 x1 x2 x3 x4 x5 y0 y1 y2 y3 y4 y5
  obtain ⟨x0, x1, x2, x3, x4, x5⟩ := B1
  obtain ⟨y0, y1, y2, y3, y4, y5⟩ := B2
  rw [d3]
  go_wp2_with fail
  refine (encode_any _ _ noRec _ m0 mE (by decide)).mono ?_
  rintro e wk ⟨rfl, k1⟩
  replace K := K.trans k1
  have B1 := Box5.keeps ⟨x0, x1, x2, x3, x4, x5⟩ k1
  have B2 := Box5.keeps ⟨y0, y1, y2, y3, y4, y5⟩ k1
  clear k1 x0 x1 x2 x3 x4 x5 y0 y1 y2 y3 y4 y5
  obtain ⟨x0, x1, x2, x3, x4, x5⟩ := B1
  obtain ⟨y0, y1, y2, y3, y4, y5⟩ := B2
  rw [d4]
  go_wp2_with fail
  refine (ttl_any _ _ noRec _ m0 mE mE).mono ?_
  rintro e wk ⟨rfl, k1⟩
  replace K := K.trans k1
  have B1 := Box5.keeps ⟨x0, x1, x2, x3, x4, x5⟩ k1
  have B2 := Box5.keeps ⟨y0, y1, y2, y3, y4, y5⟩ k1
  clear k1 x0 x1 x2 x3 x4 x5 y0 y1 y2 y3 y4 y5
  obtain ⟨x0, x1, x2, x3, x4, x5⟩ := B1
  obtain ⟨y0, y1, y2, y3, y4, y5⟩ := B2
  rw [d5]
  go_wp2
  go_ret
  exact ⟨rfl, K⟩
end Go.Proofs.Ythoominldliphaa
