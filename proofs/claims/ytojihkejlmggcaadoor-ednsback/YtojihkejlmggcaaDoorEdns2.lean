/- What Record of package edns, and of the document's answer for it, tells; whether a record may be read as OPT, and what it says. No condition. -/
import Derived.Test.YtojihkejlmggcaaDoorEdns
import Derived.Deep.DeepCutAuto
namespace Go.Proofs.YtojihkejlmggcaaDoor
open Go.RowKit

/-- Five cells of the block G, that may be written. -/
structure Cell5 (G : Nat) (a b c d e : Value) (w : World) : Prop where
  c0 : w.cell? ⟨G, 0, none⟩ = some a
  c1 : w.cell? ⟨G, 1, none⟩ = some b
  c2 : w.cell? ⟨G, 2, none⟩ = some c
  c3 : w.cell? ⟨G, 3, none⟩ = some d
  c4 : w.cell? ⟨G, 4, none⟩ = some e
  f0 : w.frozen? ⟨G, 0, none⟩ = false
  f1 : w.frozen? ⟨G, 1, none⟩ = false
  f2 : w.frozen? ⟨G, 2, none⟩ = false
  f3 : w.frozen? ⟨G, 3, none⟩ = false
  f4 : w.frozen? ⟨G, 4, none⟩ = false
  lt : G < w.heap.size
theorem Blk.cell5 {w : World} {G : Nat} {a b c d e : Value} {ty : TypeId} (h : Blk w G #[a, b, c, d, e] ty) : Cell5 G a b c d e w :=
  ⟨h.cell 0, h.cell 1, h.cell 2, h.cell 3, h.cell 4, h.frozen 0, h.frozen 1, h.frozen 2, h.frozen 3, h.frozen 4, h.lt⟩
theorem Keeps.five {w W : World} (K : Keeps w W) {G : Nat} (hle : w.heap.size ≤ G) (a b c d e : Value) :
    Keeps w (((((W.setCell ⟨G, 0, none⟩ a).setCell ⟨G, 1, none⟩ b).setCell ⟨G, 2, none⟩ c).setCell ⟨G, 3, none⟩ d).setCell ⟨G, 4, none⟩ e) :=
  ((((Below.setCell K (p := ⟨G, 0, none⟩) hle a).setCell (p := ⟨G, 1, none⟩) hle b).setCell (p := ⟨G, 2, none⟩) hle c).setCell (p := ⟨G, 3, none⟩) hle d).setCell (p := ⟨G, 4, none⟩) hle e

set_option maxHeartbeats 2000000 in
set_option maxRecDepth 100000 in
theorem record_any (o : Op) (w : World) :
    Calls Tryd.prog 12 #[opV o] w fun e w' => e = .returned (.tuple #[recV (opRec o), .bool (opOk o)]) ∧ Keeps w w' := by
  obtain ⟨h, s, x, v, d⟩ := o
  have HO := hide (show opOk ⟨h, s, x, v, d⟩ = (h && fitB s 65535 && fitB x 127 && fitB v 255) from rfl)
  have HR := hide (show opRec ⟨h, s, x, v, d⟩ = if opOk ⟨h, s, x, v, d⟩ then ⟨⟨#[0]⟩, 41, s, x * 16777216 + v * 65536 + (if d then 32768 else 0), ⟨#[]⟩⟩ else noRec from rfl)
  generalize opRec ⟨h, s, x, v, d⟩ = R at *
  generalize opOk ⟨h, s, x, v, d⟩ = O at *
  unfold opV
  have B := hide ((Blk.made w #[.bool h, .int .i64 s, .int .i64 x, .int .i64 v, .bool d] 29).alloc (.cells #[.string ⟨#[]⟩, .int .i64 0, .int .i64 0, .int .i64 0, .string ⟨#[]⟩] 37))
  have B2 := Blk.made (w.alloc (.cells #[.bool h, .int .i64 s, .int .i64 x, .int .i64 v, .bool d] 29)) #[.string ⟨#[]⟩, .int .i64 0, .int .i64 0, .int .i64 0, .string ⟨#[]⟩] 37
  rw [size_alloc] at B2
  replace B2 := hide B2
  have K := hide (((Keeps.refl w).alloc (.cells #[.bool h, .int .i64 s, .int .i64 x, .int .i64 v, .bool d] 29)).alloc (.cells #[.string ⟨#[]⟩, .int .i64 0, .int .i64 0, .int .i64 0, .string ⟨#[]⟩] 37))
  go_enter Tryd.func12, Tryd.ntmps12
  go_upto_region 1 with fail
  generalize (w.alloc (.cells #[.bool h, .int .i64 s, .int .i64 x, .int .i64 v, .bool d] 29)).alloc (.cells #[.string ⟨#[]⟩, .int .i64 0, .int .i64 0, .int .i64 0, .string ⟨#[]⟩] 37) = W at *
  have hle : w.heap.size ≤ w.heap.size + 1 := Nat.le_succ _
  have hne : w.heap.size ≠ w.heap.size + 1 := by omega
  generalize w.heap.size + 1 = G2 at *
  obtain ⟨b0, b1, b2, b3, b4, _, _, _, _, _, _⟩ := B.out.cell5
  obtain ⟨c0, c1, c2, c3, c4, f0, f1, f2, f3, f4, glt⟩ := B2.out.cell5
  have HK := hide (fun a b c d e => Keeps.five K.out hle a b c d e)
  clear B B2 K hle
  generalize w.heap.size = G at *
  by_cases hok : (h && fitB s 65535 && fitB x 127 && fitB v 255) = true
  · rw [hok] at HO
    obtain rfl := HO.out
    have HR2 := hide (HR.out.trans (if_pos rfl))
    clear HR HO
    simp only [Bool.and_eq_true] at hok
    obtain ⟨⟨⟨rfl, h1⟩, h2⟩, h3⟩ := hok
    have g1 : 0 ≤ s ∧ s ≤ 65535 := by simpa [fitB] using h1
    have g2 : 0 ≤ x ∧ x ≤ 127 := by simpa [fitB] using h2
    have g3 : 0 ≤ v ∧ v ≤ 255 := by simpa [fitB] using h3
    have e1 : bits .or .i64 (x * 16777216) (v * 65536) = x * 16777216 + v * 65536 := or_sum _ _ 24 (by omega) (by omega) (by decide) (by omega)
    have e2 : bits .or .i64 (x * 16777216 + v * 65536) 32768 = x * 16777216 + v * 65536 + 32768 := or_sum _ _ 16 (by omega) (by omega) (by decide) (by omega)
    cases d
    · go_wp2_with (go_at_call 26; refine (fits_any _ _ _).mono ?_; rintro e w5 ⟨rfl, hw⟩; subst hw; first | rw [h1] | rw [h2] | rw [h3])
      refine bodyPost_ret (v := .tuple #[.agg #[.string ⟨#[0]⟩, .int .i64 41, .int .i64 s, .int .i64 (x * 16777216 + v * 65536), .string ⟨#[]⟩], .bool true]) (by simp [results, Tryd.results12, go_sem, c0, c1, c2, c3, c4]) rfl ⟨?_, HK.out _ _ _ _ _⟩
      rw [HR2.out]
      simp [recV]
    · go_wp2_with (go_at_call 26; refine (fits_any _ _ _).mono ?_; rintro e w5 ⟨rfl, hw⟩; subst hw; first | rw [h1] | rw [h2] | rw [h3])
      refine bodyPost_ret (v := .tuple #[.agg #[.string ⟨#[0]⟩, .int .i64 41, .int .i64 s, .int .i64 (x * 16777216 + v * 65536 + 32768), .string ⟨#[]⟩], .bool true]) (by simp [results, Tryd.results12, go_sem, c0, c1, c2, c3, c4]) rfl ⟨?_, HK.out _ _ _ _ _⟩
      rw [HR2.out]
      simp [recV]
  · simp only [Bool.not_eq_true] at hok
    rw [hok] at HO
    obtain rfl := HO.out
    have HR2 := hide (HR.out.trans (if_neg (by simp)))
    clear HR HO
    have HV : Hid (recV R = .agg #[.string ⟨#[]⟩, .int .i64 0, .int .i64 0, .int .i64 0, .string ⟨#[]⟩]) := by rw [HR2.out]; rfl
    clear HR2
    have HE : Hid (∀ (W' : World), Keeps w W' → Ending.returned (.tuple #[.agg #[.string ⟨#[]⟩, .int .i64 0, .int .i64 0, .int .i64 0, .string ⟨#[]⟩], .bool false]) = Ending.returned (.tuple #[recV R, .bool false]) ∧ Keeps w W') := fun W' k => ⟨by rw [HV.out], k⟩
    cases h
    · go_wp2_with fail
      exact bodyPost_ret (v := .tuple #[.agg #[.string ⟨#[]⟩, .int .i64 0, .int .i64 0, .int .i64 0, .string ⟨#[]⟩], .bool false]) (by simp [results, Tryd.results12, go_sem, c0, c1, c2, c3, c4]) rfl (HE.out _ (HK.out _ _ _ _ _))
    cases h1 : fitB s 65535
    · go_wp2_with (go_at_call 26; refine (fits_any _ _ _).mono ?_; rintro e w5 ⟨rfl, hw⟩; subst hw; rw [h1])
      exact bodyPost_ret (v := .tuple #[.agg #[.string ⟨#[]⟩, .int .i64 0, .int .i64 0, .int .i64 0, .string ⟨#[]⟩], .bool false]) (by simp [results, Tryd.results12, go_sem, c0, c1, c2, c3, c4]) rfl (HE.out _ (HK.out _ _ _ _ _))
    cases h2 : fitB x 127
    · go_wp2_with (go_at_call 26; refine (fits_any _ _ _).mono ?_; rintro e w5 ⟨rfl, hw⟩; subst hw; first | rw [h1] | rw [h2])
      exact bodyPost_ret (v := .tuple #[.agg #[.string ⟨#[]⟩, .int .i64 0, .int .i64 0, .int .i64 0, .string ⟨#[]⟩], .bool false]) (by simp [results, Tryd.results12, go_sem, c0, c1, c2, c3, c4]) rfl (HE.out _ (HK.out _ _ _ _ _))
    · have h3 : fitB v 255 = false := by simpa [h1, h2] using hok
      go_wp2_with (go_at_call 26; refine (fits_any _ _ _).mono ?_; rintro e w5 ⟨rfl, hw⟩; subst hw; first | rw [h1] | rw [h2] | rw [h3])
      exact bodyPost_ret (v := .tuple #[.agg #[.string ⟨#[]⟩, .int .i64 0, .int .i64 0, .int .i64 0, .string ⟨#[]⟩], .bool false]) (by simp [results, Tryd.results12, go_sem, c0, c1, c2, c3, c4]) rfl (HE.out _ (HK.out _ _ _ _ _))
end Go.Proofs.YtojihkejlmggcaaDoor
