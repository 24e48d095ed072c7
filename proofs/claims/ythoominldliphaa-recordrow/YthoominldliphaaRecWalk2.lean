/- What number and Decode of layer 6 answer, for every input. -/
import Derived.Test.YthoominldliphaaRecWalk1
import Derived.Deep.RegionHeld3
import Derived.BigRegion
namespace Go.Proofs.Ythoominldliphaa
open Go.RowKit

/-- The three cells of a reader in block G, which may be written. -/
def Rd3 (G : Nat) (m : ByteArray) (p : Int) (c : Bool) (w : World) : Prop :=
  w.cell? ⟨G, 0, none⟩ = some (.string m) ∧ w.cell? ⟨G, 1, none⟩ = some (.int .i64 p) ∧ w.cell? ⟨G, 2, none⟩ = some (.bool c) ∧ w.frozen? ⟨G, 1, none⟩ = false ∧ w.frozen? ⟨G, 2, none⟩ = false ∧ G < w.heap.size
theorem Rd3.drew {G : Nat} {m : ByteArray} {p : Int} {c : Bool} {w : World} (h : Rd3 G m p c w) : Rd3 G m p c w.drew := h
theorem Rd3.at {G : Nat} {m : ByteArray} {p : Int} {c : Bool} {w : World} (h : Rd3 G m p c w) (q : Int) : Rd3 G m q c (w.setCell ⟨G, 1, none⟩ (.int .i64 q)) := by
  obtain ⟨h0, h1, h2, h3, h4, h5⟩ := h
  refine ⟨?_, ?_, ?_, ?_, ?_, ?_⟩ <;> go_simp
theorem Rd3.cut {G : Nat} {m : ByteArray} {p : Int} {c : Bool} {w : World} (h : Rd3 G m p c w) (b : Bool) : Rd3 G m p b (w.setCell ⟨G, 2, none⟩ (.bool b)) := by
  obtain ⟨h0, h1, h2, h3, h4, h5⟩ := h
  refine ⟨?_, ?_, ?_, ?_, ?_, ?_⟩ <;> go_simp
theorem Rd3.made (w : World) (m : ByteArray) (p : Int) (c : Bool) (t : TypeId) : Rd3 w.heap.size m p c (w.alloc (.cells #[.string m, .int .i64 p, .bool c] t)) := by
  refine ⟨?_, ?_, ?_, ?_, ?_, ?_⟩ <;> go_simp

set_option maxHeartbeats 1000000 in
theorem number_any (G : Nat) (m : ByteArray) (p k : Int) (c : Bool) (w : World) (hm : m.size ≤ maxLen) (hp : 0 ≤ p) (hp2 : p + 4 ≤ 9223372036854775807) (hk : 0 ≤ k ∧ k ≤ 4) (h : Rd3 G m p c w) :
    Calls Try.prog 22 #[.pointer (some ⟨G, 0, none⟩), .int .i64 k] w fun e w' => e = .returned (.int .i64 (Oct.getN m p k)) ∧ Rd3 G m (p + k) (c || !Oct.getOk m p k) w' ∧ Below G w w' := by
  have h' := h
  obtain ⟨h0, h1, h2, h3, h4, h5⟩ := h
  cases ho : Oct.getOk m p k
  · go_enter Try.func22, Try.ntmps22
    go_wp2_with fail
    have T1 := h'.drew
    go_region_held3 (fun w' => w'.cell? ⟨G, 0, none⟩ = some (.string m) ∧ w'.cell? ⟨G, 1, none⟩ = some (.int .i64 p) ∧ w'.cell? ⟨G, 2, none⟩ = some (.bool c) ∧ w'.frozen? ⟨G, 1, none⟩ = false ∧ w'.frozen? ⟨G, 2, none⟩ = false ∧ G < w'.heap.size) ((first | exact T1 | assumption)) ((go_at_call 37; refine (get_any _ _ _ _ hm (by omega)).mono ?_; rintro e w5 ⟨rfl, hw⟩; subst hw))
    obtain ⟨g0, g1, g2, g3, g4, g5⟩ := T1
    go_wp2
    go_ret
    refine ⟨rfl, ?_, (((Below.refl G w).setCell (p := ⟨G, 2, none⟩) (Nat.le_refl G) _).setCell (p := ⟨G, 1, none⟩) (Nat.le_refl G) _).drew⟩
    rw [Bool.not_false, Bool.or_true]
    exact (Rd3.cut h'.drew true).at _
  · go_enter Try.func22, Try.ntmps22
    go_wp2_with fail
    have T1 := h'.drew
    go_region_held3 (fun w' => w'.cell? ⟨G, 0, none⟩ = some (.string m) ∧ w'.cell? ⟨G, 1, none⟩ = some (.int .i64 p) ∧ w'.cell? ⟨G, 2, none⟩ = some (.bool c) ∧ w'.frozen? ⟨G, 1, none⟩ = false ∧ w'.frozen? ⟨G, 2, none⟩ = false ∧ G < w'.heap.size) ((first | exact T1 | assumption)) ((go_at_call 37; refine (get_any _ _ _ _ hm (by omega)).mono ?_; rintro e w5 ⟨rfl, hw⟩; subst hw))
    obtain ⟨g0, g1, g2, g3, g4, g5⟩ := T1
    go_wp2
    go_ret
    refine ⟨rfl, ?_, ((Below.refl G w).setCell (p := ⟨G, 1, none⟩) (Nat.le_refl G) _).drew⟩
    rw [Bool.not_true, Bool.or_false]
    exact Rd3.at h'.drew _

/-- The five cells of the answer's record, that may be written, and what is laid in them. -/
def Out5 (G : Nat) (w : World) : Prop :=
  (w.cell? ⟨G, 0, none⟩ = some (.string ⟨#[]⟩) ∧ w.cell? ⟨G, 1, none⟩ = some (.int .i64 0) ∧ w.cell? ⟨G, 2, none⟩ = some (.int .i64 0) ∧ w.cell? ⟨G, 3, none⟩ = some (.int .i64 0) ∧ w.cell? ⟨G, 4, none⟩ = some (.string ⟨#[]⟩)) ∧
  (w.frozen? ⟨G, 0, none⟩ = false ∧ w.frozen? ⟨G, 1, none⟩ = false ∧ w.frozen? ⟨G, 2, none⟩ = false ∧ w.frozen? ⟨G, 3, none⟩ = false ∧ w.frozen? ⟨G, 4, none⟩ = false) ∧ G < w.heap.size
theorem Out5.below {G B : Nat} {w w' : World} (h : Out5 G w) (hb : Below B w w') (hG : G < B) : Out5 G w' := by
  obtain ⟨⟨h0, h1, h2, h3, h4⟩, ⟨f0, f1, f2, f3, f4⟩, hg⟩ := h
  exact ⟨⟨(hb.cell (p := ⟨G, 0, none⟩) hG).trans h0, (hb.cell (p := ⟨G, 1, none⟩) hG).trans h1, (hb.cell (p := ⟨G, 2, none⟩) hG).trans h2, (hb.cell (p := ⟨G, 3, none⟩) hG).trans h3, (hb.cell (p := ⟨G, 4, none⟩) hG).trans h4⟩,
    ⟨(hb.frozen (p := ⟨G, 0, none⟩) hG).trans f0, (hb.frozen (p := ⟨G, 1, none⟩) hG).trans f1, (hb.frozen (p := ⟨G, 2, none⟩) hG).trans f2, (hb.frozen (p := ⟨G, 3, none⟩) hG).trans f3, (hb.frozen (p := ⟨G, 4, none⟩) hG).trans f4⟩, Nat.lt_of_lt_of_le hg hb.size⟩
theorem Out5.made (w : World) (t : TypeId) : Out5 w.heap.size (w.alloc (.cells #[.string ⟨#[]⟩, .int .i64 0, .int .i64 0, .int .i64 0, .string ⟨#[]⟩] t)) := by
  refine ⟨⟨?_, ?_, ?_, ?_, ?_⟩, ⟨?_, ?_, ?_, ?_, ?_⟩, ?_⟩ <;> go_simp

/-- What Decode does behind a name that was read, by the places as the code reckons them. -/
theorem decB_cut {m n : ByteArray} {i : Nat} (h : ¬ i + 10 ≤ m.size) : decB m n i = badD 2 := if_neg h
theorem decB_in {m n : ByteArray} {i : Nat} (h : i + 10 ≤ m.size) (E : Dt.ER) (hE : E = Dt.expL (bl m) ((i : Int) + 2 + 2 + 4 + 2) (Oct.getN m ((i : Int) + 2 + 2 + 4) 2) (Oct.getN m i 2)) :
    (E.e = 0 → decB m n i = ⟨⟨n, Oct.getN m i 2, Oct.getN m ((i : Int) + 2) 2, ttlOf (Oct.getN m ((i : Int) + 2 + 2) 4), erS E⟩, i + 10 + (Oct.getN m ((i : Int) + 2 + 2 + 4) 2).toNat, 0⟩) ∧ (E.e ≠ 0 → decB m n i = badD E.e) := by
  have q2 : ((i : Int) + 2) = ((i + 2 : Nat) : Int) := by omega
  have q4 : ((i : Int) + 2 + 2) = ((i + 4 : Nat) : Int) := by omega
  have q8 : ((i : Int) + 2 + 2 + 4) = ((i + 8 : Nat) : Int) := by omega
  have q10 : ((i : Int) + 2 + 2 + 4 + 2) = ((i + 10 : Nat) : Int) := by omega
  rw [q10, q8] at hE
  rw [q8, q4, q2]
  constructor
  · intro h0
    rw [decB, if_pos h]
    simp only [← hE]
    rw [if_pos h0]
  · intro h0
    rw [decB, if_pos h]
    simp only [← hE]
    rw [if_neg h0]
theorem getOk_nat (m : ByteArray) (p k : Int) (hp : 0 ≤ p) (hk : 1 ≤ k ∧ k ≤ 4) : Oct.getOk m p k = decide (p + k ≤ m.size) := by
  rw [Bool.eq_iff_iff, Oct.getOk_spec, Oct.takeOk_spec, decide_eq_true_eq]
  omega
theorem get_small (m : ByteArray) (p : Int) : 0 ≤ Oct.getN m p 2 ∧ Oct.getN m p 2 ≤ 65535 := by
  have h0 := (Oct.getN_bound m p 2).1
  refine ⟨h0, ?_⟩
  unfold Oct.getN
  split
  · rename_i h
    have h1 := ((Oct.getOk_spec _ _ _).1 h).2
    have h2 := Oct.takeS_size m p 2 h1
    have h3 := (Oct.numL_bound (Oct.takeS m p 2).data.toList).2
    have h4 : (Oct.takeS m p 2).data.toList.length = 2 := by
      have : (Oct.takeS m p 2).data.toList.length = (Oct.takeS m p 2).size := by rw [Array.length_toList]; rfl
      omega
    rw [h4] at h3
    have : (256 : Int) ^ 2 = 65536 := by decide
    omega
  · omega

/-- What comes of Decode. -/
def decV (r : DR) : Value := .tuple #[recV r.r, .int .i64 r.next, .int .i64 r.e]

set_option maxHeartbeats 2000000 in
set_option maxRecDepth 100000 in
theorem decode_any (m : ByteArray) (p : Int) (w : World) (hm2 : m.size ≤ 1000000) (hp : p ≤ 9223372036854775807) :
    Calls Try.prog 9 #[.string m, .int .i64 p] w fun e w' => e = .returned (decV (decR m p)) ∧ Keeps w w' := by
  have hm : m.size ≤ maxLen := by unfold maxLen; omega
  have HR := hide (fun W => read_any m p W hm hp)
  have O0 := Out5.made w 24
  have K := (Keeps.refl w).alloc (.cells #[.string ⟨#[]⟩, .int .i64 0, .int .i64 0, .int .i64 0, .string ⟨#[]⟩] 24)
  have hG : w.heap.size < (w.alloc (.cells #[.string ⟨#[]⟩, .int .i64 0, .int .i64 0, .int .i64 0, .string ⟨#[]⟩] 24)).heap.size := by simp
  by_cases he : (Cm.readL (bl m) p).e = 0
  · have HD : Hid (decR m p = decB m (rrS (Cm.readL (bl m) p)) (Cm.readL (bl m) p).next) := if_pos he
    obtain ⟨z1, z2⟩ := rrS_size (l := bl m) (p := p) rfl
    rw [bl_length] at z2
    rw [he] at HR
    generalize decR m p = D at *
    generalize rrS (Cm.readL (bl m) p) = N at *
    generalize (Cm.readL (bl m) p).next = i at *
    clear he
    go_enter Try.func9, Try.ntmps9
    go_wp2_with fail
    refine (HR.out _).mono ?_
    rintro e wk ⟨rfl, k1⟩
    have O1 := O0.below k1 hG
    have K1 := K.trans k1
    have hG1 := Nat.lt_of_lt_of_le hG k1.size
    clear O0 hG HR k1 K
    generalize hGG : w.heap.size = G at *
    have hle : w.heap.size ≤ G := Nat.le_of_eq hGG
    clear hGG
    have R0 := Rd3.made wk m i false 44
    have K2 := K1.alloc (.cells #[.string m, .int .i64 i, .bool false] 44)
    have O2 := O1.below ((Keeps.refl wk).alloc (.cells #[.string m, .int .i64 i, .bool false] 44)) hG1
    have hwB : w.heap.size ≤ wk.heap.size := K1.size
    go_wp2_with fail
    generalize wk.alloc (.cells #[.string m, .int .i64 i, .bool false] 44) = W at *
    generalize wk.heap.size = B at *
    clear K1 O1
    refine (number_any B m i 2 false W hm (by omega) (by omega) (by decide) R0).mono ?_
    rintro e w1 ⟨rfl, R1, b1⟩
    go_wp2_with fail
    refine (number_any B m (i + 2) 2 _ w1 hm (by omega) (by omega) (by decide) R1).mono ?_
    rintro e w2 ⟨rfl, R2, b2⟩
    go_wp2_with fail
    refine (number_any B m (i + 2 + 2) 4 _ w2 hm (by omega) (by omega) (by decide) R2).mono ?_
    rintro e w3 ⟨rfl, R3, b3⟩
    go_wp2_with fail
    refine (number_any B m (i + 2 + 2 + 4) 2 _ w3 hm (by omega) (by omega) (by decide) R3).mono ?_
    rintro e w4 ⟨rfl, R4, b4⟩
    have bb := ((b1.trans b2).trans b3).trans b4
    have O3 := O2.below bb hG1
    have K3 : Keeps w w4 := Below.trans K2 (bb.mono hwB)
    clear R0 R1 R2 R3 b1 b2 b3 b4 bb O2 K2
    rw [getOk_nat m _ 2 (by omega) (by decide), getOk_nat m _ 2 (by omega) (by decide), getOk_nat m _ 4 (by omega) (by decide), getOk_nat m _ 2 (by omega) (by decide)] at R4
    have hs := get_small m ((i : Int) + 2 + 2 + 4)
    by_cases hin : i + 10 ≤ m.size
    · have hcut : (false || !decide ((i : Int) + 2 ≤ m.size) || !decide ((i : Int) + 2 + 2 ≤ m.size) || !decide ((i : Int) + 2 + 2 + 4 ≤ m.size) || !decide ((i : Int) + 2 + 2 + 4 + 2 ≤ m.size)) = false := by
        rw [decide_eq_true (by omega), decide_eq_true (by omega), decide_eq_true (by omega), decide_eq_true (by omega)]; rfl
      rw [hcut] at R4
      clear hcut
      obtain ⟨D1, D2⟩ := decB_in (n := N) hin _ rfl
      rw [← HD.out] at D1 D2
      have HE := hide (fun W => expand_any m (i + 2 + 2 + 4 + 2) (Oct.getN m ((i : Int) + 2 + 2 + 4) 2) (Oct.getN m i 2) W hm (by omega))
      generalize Dt.expL (bl m) ((i : Int) + 2 + 2 + 4 + 2) (Oct.getN m ((i : Int) + 2 + 2 + 4) 2) (Oct.getN m i 2) = E at *
      generalize Oct.getN m ((i : Int) + 2 + 2 + 4) 2 = A4 at *
      generalize Oct.getN m ((i : Int) + 2 + 2) 4 = A3 at *
      generalize Oct.getN m ((i : Int) + 2) 2 = A2 at *
      generalize Oct.getN m i 2 = A1 at *
      have HD1 := hide D1
      have HD2 := hide D2
      clear D1 D2 HD
      obtain ⟨r0, r1, r2, r3, r4, r5⟩ := R4
      go_wp2_with fail
      refine (HE.out _).mono ?_
      rintro e w5 ⟨rfl, k5⟩
      have r1' := (Below.cell k5 (p := ⟨B, 1, none⟩) r5).trans r1
      obtain ⟨⟨c0, c1, c2, c3, c4⟩, ⟨f0, f1, f2, f3, f4⟩, hg⟩ := O3.below k5 (by have := O3.2.2; exact this)
      have K5 := K3.trans k5
      clear K3 O3 r0 r1 r2 r3 r4 r5 k5 HE
      by_cases he : E.e = 0
      · have HD := hide (HD1.out he)
        rw [he]
        clear HD1 HD2 he
        generalize erS E = X at *
        by_cases ht : 2147483647 < A3
        · have HT : Hid (ttlOf A3 = 0) := if_pos ht
          rw [HT.out] at HD
          go_wp2_with fail
          have hwr : IntKind.i64.wrap ((i : Int) + 2 + 2 + 4 + 2 + A4) = (i : Int) + 2 + 2 + 4 + 2 + A4 := Oct.wraps_i64 _ (by omega) (by omega)
          have hBG : B ≠ G := by omega
          go_region
          go_wp2
          refine bodyPost_ret (v := .tuple #[.agg #[.string N, .int .i64 A1, .int .i64 A2, .int .i64 0, .string X], .int .i64 ((i : Int) + 2 + 2 + 4 + 2 + A4), .int .i64 0]) (by simp [results, Try.results9, go_sem, c0, c1, c2, c3, c4]) rfl ⟨?_, Keeps.drew (((((K5.setCell (p := ⟨G, 0, none⟩) hle _).setCell (p := ⟨G, 1, none⟩) hle _).setCell (p := ⟨G, 2, none⟩) hle _).setCell (p := ⟨G, 3, none⟩) hle _).setCell (p := ⟨G, 4, none⟩) hle _)⟩
          have hnx : (i : Int) + 2 + 2 + 4 + 2 + A4 = ((i + 10 + A4.toNat : Nat) : Int) := by omega
          rw [HD.out, hnx]
          rfl
        · have HT : Hid (ttlOf A3 = A3) := if_neg ht
          rw [HT.out] at HD
          go_wp2_with fail
          have hwr : IntKind.i64.wrap ((i : Int) + 2 + 2 + 4 + 2 + A4) = (i : Int) + 2 + 2 + 4 + 2 + A4 := Oct.wraps_i64 _ (by omega) (by omega)
          have hBG : B ≠ G := by omega
          go_region
          go_wp2
          refine bodyPost_ret (v := .tuple #[.agg #[.string N, .int .i64 A1, .int .i64 A2, .int .i64 A3, .string X], .int .i64 ((i : Int) + 2 + 2 + 4 + 2 + A4), .int .i64 0]) (by simp [results, Try.results9, go_sem, c0, c1, c2, c3, c4]) rfl ⟨?_, Keeps.drew (((((K5.setCell (p := ⟨G, 0, none⟩) hle _).setCell (p := ⟨G, 1, none⟩) hle _).setCell (p := ⟨G, 2, none⟩) hle _).setCell (p := ⟨G, 3, none⟩) hle _).setCell (p := ⟨G, 4, none⟩) hle _)⟩
          have hnx : (i : Int) + 2 + 2 + 4 + 2 + A4 = ((i + 10 + A4.toNat : Nat) : Int) := by omega
          rw [HD.out, hnx]
          rfl
      · have HD := hide (HD2.out he)
        have hne : ((E.e : Int) != 0) = true := by rw [bne_iff_ne]; omega
        clear HD1 HD2 he
        go_wp2
        exact bodyPost_ret (v := decV (badD E.e)) (by simp [results, Try.results9, go_sem, decV, badD, noRec, recV, c0, c1, c2, c3, c4]) rfl ⟨by rw [HD.out], ((((K5.setCell (p := ⟨G, 0, none⟩) hle _).setCell (p := ⟨G, 1, none⟩) hle _).setCell (p := ⟨G, 2, none⟩) hle _).setCell (p := ⟨G, 3, none⟩) hle _).setCell (p := ⟨G, 4, none⟩) hle _⟩
    · have hcut : (false || !decide ((i : Int) + 2 ≤ m.size) || !decide ((i : Int) + 2 + 2 ≤ m.size) || !decide ((i : Int) + 2 + 2 + 4 ≤ m.size) || !decide ((i : Int) + 2 + 2 + 4 + 2 ≤ m.size)) = true := by
        rw [decide_eq_false (p := (i : Int) + 2 + 2 + 4 + 2 ≤ m.size) (by omega)]; simp
      rw [hcut] at R4
      clear hcut
      rw [decB_cut hin] at HD
      generalize Oct.getN m ((i : Int) + 2 + 2 + 4) 2 = A4 at *
      generalize Oct.getN m ((i : Int) + 2 + 2) 4 = A3 at *
      generalize Oct.getN m ((i : Int) + 2) 2 = A2 at *
      generalize Oct.getN m i 2 = A1 at *
      obtain ⟨r0, r1, r2, r3, r4, r5⟩ := R4
      obtain ⟨⟨c0, c1, c2, c3, c4⟩, ⟨f0, f1, f2, f3, f4⟩, hg⟩ := O3
      go_wp2
      exact bodyPost_ret (v := decV (badD 2)) (by simp [results, Try.results9, go_sem, decV, badD, noRec, recV, c0, c1, c2, c3, c4]) rfl ⟨by rw [HD.out], ((((K3.setCell (p := ⟨G, 0, none⟩) hle _).setCell (p := ⟨G, 1, none⟩) hle _).setCell (p := ⟨G, 2, none⟩) hle _).setCell (p := ⟨G, 3, none⟩) hle _).setCell (p := ⟨G, 4, none⟩) hle _⟩
  · have HD : Hid (decR m p = badD (Cm.readL (bl m) p).e) := if_neg he
    generalize decR m p = D at *
    generalize Cm.readL (bl m) p = R at *
    go_enter Try.func9, Try.ntmps9
    go_wp2_with fail
    refine (HR.out _).mono ?_
    rintro e wk ⟨rfl, k1⟩
    have hne : ((R.e : Int) != 0) = true := by rw [bne_iff_ne]; omega
    obtain ⟨⟨c0, c1, c2, c3, c4⟩, ⟨f0, f1, f2, f3, f4⟩, hg⟩ := O0.below k1 hG
    have K1 := K.trans k1
    clear O0 hG HR k1 K
    generalize hGG : w.heap.size = G at *
    have hle : w.heap.size ≤ G := Nat.le_of_eq hGG
    clear hGG
    go_wp2
    exact bodyPost_ret (v := decV (badD R.e)) (by simp [results, Try.results9, go_sem, decV, badD, noRec, recV, c0, c1, c2, c3, c4]) rfl ⟨by rw [HD.out], ((((K1.setCell (p := ⟨G, 0, none⟩) hle _).setCell (p := ⟨G, 1, none⟩) hle _).setCell (p := ⟨G, 2, none⟩) hle _).setCell (p := ⟨G, 3, none⟩) hle _).setCell (p := ⟨G, 4, none⟩) hle _⟩
end Go.Proofs.Ythoominldliphaa
