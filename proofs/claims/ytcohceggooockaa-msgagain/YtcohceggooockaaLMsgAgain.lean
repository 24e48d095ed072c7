/- MsgAgain answers true, for every input: the walk. -/
import Derived.Test.YtcohceggooockaaMsgLive
import Derived.Test.YtcohceggooockaaMsgWA
import Derived.Test.YtcohceggooockaaMsgO4
namespace Go.Proofs.Ytcohceggooockaa
open Go.RowKit

theorem ms_form9 {w : World} {v : Value} {m : Ms} (h : MsAt w v m) : ∃ a b c d e f g h, v = .agg #[.int .i64 m.id, .int .i64 m.bits, .slice a m.qs.length b, .slice c m.an.length d, .slice e m.ns.length f, .slice g m.ar.length h] := by
  obtain ⟨vq, va, vn, vr, rfl, r1, r2, r3, r4⟩ := h
  obtain ⟨a, b, h1⟩ := r1.len
  obtain ⟨c, d, h2⟩ := r2.len
  obtain ⟨e, f, h3⟩ := r3.len
  obtain ⟨g, h, h4⟩ := r4.len
  rw [List.length_map] at h1 h2 h3 h4
  subst h1 h2 h3 h4
  exact ⟨a, b, c, d, e, f, g, h, rfl⟩
theorem fine8 {m : Ms} (h : msOk m = true) : MsFine m := by
  obtain ⟨u1, u2, u3, u4, u5, u6, u7, u8⟩ := qs_fine h
  have e : (255 : Nat) ≤ maxLen ∧ (65535 : Nat) ≤ maxLen := by unfold maxLen; decide
  exact ⟨⟨by omega, fun x hx => Nat.le_trans (u1 x hx) e.1⟩, ⟨by omega, fun x hx => ⟨Nat.le_trans (u6 x hx).1 e.1, Nat.le_trans (u6 x hx).2 e.2⟩⟩, ⟨by omega, fun x hx => ⟨Nat.le_trans (u7 x hx).1 e.1, Nat.le_trans (u7 x hx).2 e.2⟩⟩, by omega, fun x hx => ⟨Nat.le_trans (u8 x hx).1 e.1, Nat.le_trans (u8 x hx).2 e.2⟩⟩
theorem again_lens {m : Ms} (h : MsLens m) : MsLens (againM m) := by
  obtain ⟨h1, h2, h3, h4⟩ := h
  exact ⟨h1, by rw [againM, List.length_map]; exact h2, by rw [againM, List.length_map]; exact h3, by rw [againM, List.length_map]; exact h4⟩
theorem names8 {l : List Rec} (h : rsOk l = true) : ∀ r ∈ l, Nm.okL (bl r.n) = true := by
  intro r hr
  rw [rsOk, Bool.and_eq_true, List.all_eq_true] at h
  exact ((recOk_spec r).1 (h.2 r hr)).1
theorem sects8 {m : Ms} (h : msOk m = true) : rsOk m.an = true ∧ rsOk m.ns = true ∧ rsOk m.ar = true := by
  rw [msOk_parts] at h
  simp only [Bool.and_eq_true] at h
  exact ⟨h.1.1.2, h.1.2, h.2⟩

set_option maxHeartbeats 16000000 in
set_option maxRecDepth 100000 in
theorem MsgAgain_walk (s : ByteArray) (w : World) (hs : s.size ≤ maxLen) :
    Calls Try.prog 6 #[.string s] w fun e w' => e = .returned (.bool true) ∧ Keeps w w' := by
  have hs' := hs
  unfold maxLen at hs'
  by_cases hl : 2000 < s.size
  · have i1 : decide ((2000 : Int) < (s.size : Int)) = true := decide_eq_true (by omega)
    go_enter Try.func6, Try.ntmps6
    go_wp2_with fail
    refine (live8_any _).mono ?_
    rintro e wz ⟨rfl, kz⟩
    go_wp2
    go_ret
    exact ⟨rfl, kz⟩
  have i1 : decide ((2000 : Int) < (s.size : Int)) = false := decide_eq_false (by omega)
  have HD := hide (fun W => Decode_any s W hs)
  have HOK := hide (decM_ok s)
  have HBAD := hide (decM_bad s)
  obtain ⟨D, hD⟩ : ∃ D, D = (decM s).1 := ⟨_, rfl⟩
  obtain ⟨E, hE⟩ : ∃ E, E = (decM s).2 := ⟨_, rfl⟩
  have HD2 : Hid (∀ W, Calls Try.prog 10 #[.string s] W fun e w' => ∃ v, e = .returned (.tuple #[v, .int .i64 E]) ∧ MsAt w' v D ∧ Keeps W w') := by
    rw [hD, hE]
    exact HD.out
  rw [← hD, ← hE] at HOK HBAD
  clear HD hD hE
  by_cases hE0 : E = 0
  · subst hE0
    have hok := HOK.out rfl
    clear HOK HBAD
    have hfine := fine8 hok
    have hlens := hfine.lens
    obtain ⟨y1, y2, y3⟩ := sects8 hok
    obtain ⟨u1, u2, u3, u4, u5, u6, u7, u8⟩ := qs_fine hok
    have HAG := fun (v : Value) W (h : MsAt W v D) => again_any v D W h (baseS_ok hok) ⟨by omega, by omega, by omega⟩ (names8 y1) (names8 y2) (names8 y3)
    have HEN := fun (v : Value) W (h : MsAt W v D) => Encode_any v D W h hfine
    have HCK := fun (v : Value) W (h : MsAt W v D) => Check_any v D W h hfine
    have HX := fun (h : ¬ 65535 < (encT D).size) => dec_again hok h
    have hX2 := again_lens hlens
    have henc : encM D = (if 65535 < (encT D).size then (⟨#[]⟩, 6) else (encT D, 0)) := by rw [encM, hok]; rfl
    rw [hok] at HCK
    clear y1 y2 y3 u1 u2 u3 u4 u5 u6 u7 u8 hok hfine
    replace HAG := hide HAG
    replace HCK := hide HCK
    replace HX := hide HX
    replace hX2 := hide hX2
    replace hlens := hide hlens
    by_cases hfit : 65535 < (encT D).size
    · rw [if_pos hfit] at henc
      rw [henc] at HEN
      simp only at HEN
      replace HEN := hide HEN
      clear henc HX hX2 HAG
      replace hfit := hide hfit
      go_enter Try.func6, Try.ntmps6
      go_wp2_with fail
      refine (HD2.out _).mono ?_
      intro e w1 hEE
      obtain ⟨vD, rfl, hM, k0⟩ := hEE
      have K := hide k0
      clear k0 HD2
      obtain ⟨pq, pkq, pa, pka, pn, pkn, pr, pkr, rfl⟩ := ms_form9 hM
      have kA := (Keeps.refl w1).alloc (.cells #[.int .i64 D.id, .int .i64 D.bits, .slice pq D.qs.length pkq, .slice pa D.an.length pka, .slice pn D.ns.length pkn, .slice pr D.ar.length pkr] 26)
      have B := hide (Blk.made w1 #[.int .i64 D.id, .int .i64 D.bits, .slice pq D.qs.length pkq, .slice pa D.an.length pka, .slice pn D.ns.length pkn, .slice pr D.ar.length pkr] 26)
      have MT := hide (hM.keeps kA)
      replace K := hide (K.out.trans kA)
      clear kA hM
      go_upto_region 4 with fail
      generalize w1.alloc (.cells #[.int .i64 D.id, .int .i64 D.bits, .slice pq D.qs.length pkq, .slice pa D.an.length pka, .slice pn D.ns.length pkn, .slice pr D.ar.length pkr] 26) = W2 at *
      generalize w1.heap.size = M at *
      obtain ⟨b0, b1, b2, b3, b4, b5, _⟩ := B.out.six6
      go_wp2_with fail
      refine (HEN.out _ _ MT.out).mono ?_
      rintro e w3 ⟨rfl, k1⟩
      replace B := hide (B.out.keeps k1)
      replace MT := hide (MT.out.keeps k1)
      replace K := hide (K.out.trans k1)
      clear k1 b0 b1 b2 b3 b4 b5
      obtain ⟨b0, b1, b2, b3, b4, b5, _⟩ := B.out.six6
      go_wp2_with fail
      refine (HCK.out _ _ MT.out).mono ?_
      rintro e w4 ⟨rfl, k1⟩
      replace B := hide (B.out.keeps k1)
      replace MT := hide (MT.out.keeps k1)
      replace K := hide (K.out.trans k1)
      clear k1 b0 b1 b2 b3 b4 b5
      obtain ⟨b0, b1, b2, b3, b4, b5, _⟩ := B.out.six6
      go_wp2_with fail
      refine (HCK.out _ _ MT.out).mono ?_
      rintro e w5 ⟨rfl, k1⟩
      replace B := hide (B.out.keeps k1)
      replace MT := hide (MT.out.keeps k1)
      replace K := hide (K.out.trans k1)
      clear k1 b0 b1 b2 b3 b4 b5
      go_wp2_with fail
      refine (live8_any _).mono ?_
      rintro e wz ⟨rfl, kz⟩
      go_wp2
      go_ret
      exact ⟨rfl, K.out.trans kz⟩
    · rw [if_neg hfit] at henc
      rw [henc] at HEN
      simp only at HEN
      replace HEN := hide HEN
      have hX := HX.out hfit
      have htn : (encT D).size ≤ maxLen := by unfold maxLen; omega
      have HDT := fun W => Decode_any (encT D) W htn
      rw [hX] at HDT
      unfold DecEnd at HDT
      simp only at HDT
      replace HDT := hide HDT
      clear henc HX hX htn
      replace hfit := hide hfit
      generalize againM D = X at *
      generalize encT D = T0 at *
      go_enter Try.func6, Try.ntmps6
      go_wp2_with fail
      refine (HD2.out _).mono ?_
      intro e w1 hEE
      obtain ⟨vD, rfl, hM, k0⟩ := hEE
      have K := hide k0
      clear k0 HD2
      obtain ⟨pq, pkq, pa, pka, pn, pkn, pr, pkr, rfl⟩ := ms_form9 hM
      have kA := (Keeps.refl w1).alloc (.cells #[.int .i64 D.id, .int .i64 D.bits, .slice pq D.qs.length pkq, .slice pa D.an.length pka, .slice pn D.ns.length pkn, .slice pr D.ar.length pkr] 26)
      have B := hide (Blk.made w1 #[.int .i64 D.id, .int .i64 D.bits, .slice pq D.qs.length pkq, .slice pa D.an.length pka, .slice pn D.ns.length pkn, .slice pr D.ar.length pkr] 26)
      have MT := hide (hM.keeps kA)
      replace K := hide (K.out.trans kA)
      clear kA hM
      go_upto_region 4 with fail
      generalize w1.alloc (.cells #[.int .i64 D.id, .int .i64 D.bits, .slice pq D.qs.length pkq, .slice pa D.an.length pka, .slice pn D.ns.length pkn, .slice pr D.ar.length pkr] 26) = W2 at *
      generalize w1.heap.size = M at *
      obtain ⟨b0, b1, b2, b3, b4, b5, _⟩ := B.out.six6
      go_wp2_with fail
      refine (HEN.out _ _ MT.out).mono ?_
      rintro e w3 ⟨rfl, k1⟩
      replace B := hide (B.out.keeps k1)
      replace MT := hide (MT.out.keeps k1)
      replace K := hide (K.out.trans k1)
      clear k1 b0 b1 b2 b3 b4 b5
      obtain ⟨b0, b1, b2, b3, b4, b5, _⟩ := B.out.six6
      go_wp2_with fail
      refine (HCK.out _ _ MT.out).mono ?_
      rintro e w4 ⟨rfl, k1⟩
      replace B := hide (B.out.keeps k1)
      replace MT := hide (MT.out.keeps k1)
      replace K := hide (K.out.trans k1)
      clear k1 b0 b1 b2 b3 b4 b5
      go_wp2_with fail
      refine (HDT.out _).mono ?_
      intro e w5 hEE
      obtain ⟨vX, rfl, hMX, k1⟩ := hEE
      replace B := hide (B.out.keeps k1)
      replace MT := hide (MT.out.keeps k1)
      replace K := hide (K.out.trans k1)
      clear k1
      obtain ⟨tq, tkq, ta, tka, tn, tkn, tr, tkr, rfl⟩ := ms_form9 hMX
      have BG := hide (Blk.made w5 #[.int .i64 X.id, .int .i64 X.bits, .slice tq X.qs.length tkq, .slice ta X.an.length tka, .slice tn X.ns.length tkn, .slice tr X.ar.length tkr] 26)
      have kA := (Keeps.refl w5).alloc (.cells #[.int .i64 X.id, .int .i64 X.bits, .slice tq X.qs.length tkq, .slice ta X.an.length tka, .slice tn X.ns.length tkn, .slice tr X.ar.length tkr] 26)
      have MX := hide (hMX.keeps kA)
      replace B := hide (B.out.keeps kA)
      replace MT := hide (MT.out.keeps kA)
      replace K := hide (K.out.trans kA)
      clear kA hMX
      go_upto_region 10 with fail
      generalize w5.alloc (.cells #[.int .i64 X.id, .int .i64 X.bits, .slice tq X.qs.length tkq, .slice ta X.an.length tka, .slice tn X.ns.length tkn, .slice tr X.ar.length tkr] 26) = W6 at *
      generalize w5.heap.size = G at *
      have K2 : Keeps w W6.drew := K.out.drew
      have HT : Hid (∀ w', Keeps W6.drew w' → w'.cell? ⟨M, 0, none⟩ = some (.int .i64 D.id) ∧ w'.cell? ⟨M, 1, none⟩ = some (.int .i64 D.bits) ∧ w'.cell? ⟨M, 2, none⟩ = some (.slice pq D.qs.length pkq) ∧ w'.cell? ⟨M, 3, none⟩ = some (.slice pa D.an.length pka) ∧ w'.cell? ⟨M, 4, none⟩ = some (.slice pn D.ns.length pkn) ∧ w'.cell? ⟨M, 5, none⟩ = some (.slice pr D.ar.length pkr) ∧ w'.cell? ⟨G, 0, none⟩ = some (.int .i64 X.id) ∧ w'.cell? ⟨G, 1, none⟩ = some (.int .i64 X.bits) ∧ w'.cell? ⟨G, 2, none⟩ = some (.slice tq X.qs.length tkq) ∧ w'.cell? ⟨G, 3, none⟩ = some (.slice ta X.an.length tka) ∧ w'.cell? ⟨G, 4, none⟩ = some (.slice tn X.ns.length tkn) ∧ w'.cell? ⟨G, 5, none⟩ = some (.slice tr X.ar.length tkr)) := fun w' q => ⟨(B.out.drew.keeps q).cell 0, (B.out.drew.keeps q).cell 1, (B.out.drew.keeps q).cell 2, (B.out.drew.keeps q).cell 3, (B.out.drew.keeps q).cell 4, (B.out.drew.keeps q).cell 5, (BG.out.drew.keeps q).cell 0, (BG.out.drew.keeps q).cell 1, (BG.out.drew.keeps q).cell 2, (BG.out.drew.keeps q).cell 3, (BG.out.drew.keeps q).cell 4, (BG.out.drew.keeps q).cell 5⟩
      have T := HT.out _ (Keeps.refl _)
      have KK : Keeps W6.drew W6.drew := Keeps.refl _
      have MT2 := hide (MT.out.keeps (Keeps.refl _).drew)
      have MX2 := hide (MX.out.keeps (Keeps.refl _).drew)
      clear B BG K MT MX
      go_wp2_with fail
      go_region_held3 (fun w' => w'.cell? ⟨M, 0, none⟩ = some (.int .i64 D.id) ∧ w'.cell? ⟨M, 1, none⟩ = some (.int .i64 D.bits) ∧ w'.cell? ⟨M, 2, none⟩ = some (.slice pq D.qs.length pkq) ∧ w'.cell? ⟨M, 3, none⟩ = some (.slice pa D.an.length pka) ∧ w'.cell? ⟨M, 4, none⟩ = some (.slice pn D.ns.length pkn) ∧ w'.cell? ⟨M, 5, none⟩ = some (.slice pr D.ar.length pkr) ∧ w'.cell? ⟨G, 0, none⟩ = some (.int .i64 X.id) ∧ w'.cell? ⟨G, 1, none⟩ = some (.int .i64 X.bits) ∧ w'.cell? ⟨G, 2, none⟩ = some (.slice tq X.qs.length tkq) ∧ w'.cell? ⟨G, 3, none⟩ = some (.slice ta X.an.length tka) ∧ w'.cell? ⟨G, 4, none⟩ = some (.slice tn X.ns.length tkn) ∧ w'.cell? ⟨G, 5, none⟩ = some (.slice tr X.ar.length tkr)) (exact T) ((first | (go_at_call 22; refine (HAG.out _ _ (MT2.out.keeps KK)).mono ?_; intro e w7 hEE; obtain ⟨v9, rfl, r9, k5⟩ := hEE; replace KK := Keeps.trans KK k5; replace T := HT.out _ KK; clear k5) | (go_at_call 20; refine (Same_any _ _ X X _ (MX2.out.keeps KK) r9 hX2.out hX2.out).mono ?_; rintro e w8 ⟨rfl, k5⟩; rw [decide_eq_true rfl]; replace KK := Keeps.trans KK k5; replace T := HT.out _ KK; clear k5) | (go_at_call 9; refine (live8_any _).mono ?_; rintro e w9 ⟨rfl, k5⟩; replace KK := Keeps.trans KK k5; replace T := HT.out _ KK; clear k5)))
      go_wp2
      go_ret
      exact ⟨rfl, K2.trans KK⟩
  · have hD0 := HBAD.out hE0
    subst hD0
    have hne : ((E : Int) != 0) = true := by rw [bne_iff_ne]; omega
    clear HOK HBAD
    go_enter Try.func6, Try.ntmps6
    go_wp2_with fail
    refine (HD2.out _).mono ?_
    intro e w1 hEE
    obtain ⟨vD, rfl, hM, k0⟩ := hEE
    have K := hide k0
    clear k0 HD2
    obtain ⟨pq, pkq, pa, pka, pn, pkn, pr, pkr, rfl⟩ := ms_form9 hM
    simp only [noMs, List.length_nil] at hM ⊢
    have kA := (Keeps.refl w1).alloc (.cells #[.int .i64 0, .int .i64 0, .slice pq 0 pkq, .slice pa 0 pka, .slice pn 0 pkn, .slice pr 0 pkr] 26)
    have B := hide (Blk.made w1 #[.int .i64 0, .int .i64 0, .slice pq 0 pkq, .slice pa 0 pka, .slice pn 0 pkn, .slice pr 0 pkr] 26)
    have MT := hide (hM.keeps kA)
    replace K := hide (K.out.trans kA)
    clear kA hM
    go_upto_region 4 with fail
    generalize w1.alloc (.cells #[.int .i64 0, .int .i64 0, .slice pq 0 pkq, .slice pa 0 pka, .slice pn 0 pkn, .slice pr 0 pkr] 26) = W2 at *
    generalize w1.heap.size = M at *
    obtain ⟨b0, b1, b2, b3, b4, b5, _⟩ := B.out.six6
    have HS := hide (Same_any _ noV ⟨0, 0, [], [], [], []⟩ noMs W2 MT.out (MsAt.none _) ⟨by unfold maxLen; decide, by unfold maxLen; decide, by unfold maxLen; decide, by unfold maxLen; decide⟩ ⟨by unfold maxLen; decide, by unfold maxLen; decide, by unfold maxLen; decide, by unfold maxLen; decide⟩)
    rw [decide_eq_true (show (⟨0, 0, [], [], [], []⟩ : Ms) = noMs from rfl)] at HS
    unfold noV at HS
    go_wp2_with fail
    refine (HS.out).mono ?_
    rintro e w3 ⟨rfl, k1⟩
    replace K := hide (K.out.trans k1)
    go_wp2_with fail
    refine (live8_any _).mono ?_
    rintro e wz ⟨rfl, kz⟩
    go_wp2
    go_ret
    exact ⟨rfl, K.out.trans kz⟩
end Go.Proofs.Ytcohceggooockaa
