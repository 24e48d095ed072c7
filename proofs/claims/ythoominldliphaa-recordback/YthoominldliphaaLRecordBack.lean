/- RecordBack answers true, for every input: the walk. -/
import Derived.Test.YthoominldliphaaRecLive
import Derived.Test.YthoominldliphaaRecMath2
import Derived.Test.YthoominldliphaaBlk
namespace Go.Proofs.Ythoominldliphaa
open Go.RowKit

def withL (r : Rec) (t : Int) : Rec := ⟨r.n, r.t, r.c, t, r.d⟩
theorem enc_with {base : ByteArray} {r : Rec} {t : Int} (he : encOk base 12 r = true) (h0 : 0 ≤ t) (h1 : t ≤ 2147483647) : encOk base 12 (withL r t) = true := by
  have hs : recOk r = true ∧ Cm.wrOk (bl base) 12 (bl r.n) = true := by simpa [encOk] using he
  have hr := (recOk_spec r).1 hs.1
  have : recOk (withL r t) = true := (recOk_spec _).2 ⟨hr.1, hr.2.1, hr.2.2.1, ⟨h0, h1⟩, hr.2.2.2.2⟩
  have h2 : Cm.wrOk (bl base) 12 (bl (withL r t).n) = true := hs.2
  rw [encOk, this, h2]; rfl
/-- With another time laid where its time stands it is the same with that time. -/
theorem lay_enc {base : ByteArray} {r : Rec} {t : Int} (he : encOk base 12 r = true) (h0 : 0 ≤ t) (h1 : t ≤ 2147483647) :
    Oct.layOk (encS base 12 r) (ttlAt base 12 r) (Oct.putS t 4) = true ∧ Oct.layS (encS base 12 r) (ttlAt base 12 r) (Oct.putS t 4) = encS base 12 (withL r t) := by
  have he2 := enc_with he h0 h1
  obtain ⟨e1, e2, _, _, _⟩ := enc_yes he
  obtain ⟨f1, _, _, _, _⟩ := enc_yes he2
  have hs : recOk r = true ∧ Cm.wrOk (bl base) 12 (bl r.n) = true := by simpa [encOk] using he
  have hs2 : recOk (withL r t) = true ∧ Cm.wrOk (bl base) 12 (bl (withL r t).n) = true := by simpa [encOk] using he2
  have hr := (recOk_spec r).1 hs.1
  have o3 := (rec_puts hs.1 (check_len hr.2.2.2.2)).2.2.1
  have o3' := (rec_puts hs2.1 (check_len hr.2.2.2.2)).2.2.1
  have ea : aheadS base 12 (withL r t) = aheadS base 12 r := by rw [ahead_yes he2, ahead_yes he]; rfl
  have l3 := put_bl_len o3
  have l3' : (bl (Oct.putS t 4)).length = 4 := put_bl_len o3'
  have hz : (Oct.putS t 4).size = 4 := by rw [← bl_length]; exact l3'
  have hE : bl (encS base 12 r) = bl (aheadS base 12 r) ++ (bl (Oct.putS r.l 4) ++ (bl (Oct.putS r.d.size 2) ++ bl r.d)) := by
    rw [e1]; simp only [bl_append, List.append_assoc]
  have l3a : (bl (Oct.putS r.l 4)).length = 4 := l3
  have hsz : (encS base 12 r).size = (aheadS base 12 r).size + 4 + (bl (Oct.putS r.d.size 2) ++ bl r.d).length := by
    rw [← bl_length, hE]
    simp only [List.length_append, l3a, bl_length]
    omega
  rw [e2]
  have hok : Oct.layOk (encS base 12 r) ((aheadS base 12 r).size : Nat) (Oct.putS t 4) = true := by
    rw [Oct.layOk, hz, takeOk_nat (k := 4), decide_eq_true_eq]; omega
  refine ⟨hok, ?_⟩
  rw [Oct.layS_yes _ _ _ hok, f1, ea]
  apply bl_inj
  have hb : ∀ s : ByteArray, s.data.toList = bl s := fun _ => rfl
  have e3 : (withL r t).l = t := rfl
  have e4 : (withL r t).d = r.d := rfl
  rw [bl_mk, hb, hb, hz, Oct.laid, hE, e3, e4]
  simp only [bl_append, List.append_assoc]
  have t1 : (bl (aheadS base 12 r) ++ (bl (Oct.putS r.l 4) ++ (bl (Oct.putS r.d.size 2) ++ bl r.d))).take (aheadS base 12 r).size = bl (aheadS base 12 r) := by
    rw [← bl_length, List.take_left]
  have t2 : (bl (aheadS base 12 r) ++ (bl (Oct.putS r.l 4) ++ (bl (Oct.putS r.d.size 2) ++ bl r.d))).drop ((aheadS base 12 r).size + 4) = bl (Oct.putS r.d.size 2) ++ bl r.d := by
    rw [← List.drop_drop, ← bl_length, List.drop_left]
    conv => lhs; arg 1; rw [← l3a]
    exact List.drop_left
  have t3 : (bl (Oct.putS t 4)).take 4 = bl (Oct.putS t 4) := List.take_of_length_le (by rw [l3']; exact Nat.le_refl _)
  rw [t1, t2, t3]
/-- What the head of a message and what stands behind it read. -/
theorem head_drops (base s : ByteArray) : (bl ((⟨#[49, 50, 51, 52, 53, 54, 55, 56, 57, 97, 98, 99]⟩ : ByteArray) ++ base ++ s ++ ⟨#[122]⟩)).drop 12 = bl base ++ (bl s ++ [122]) ∧
    (bl ((⟨#[49, 50, 51, 52, 53, 54, 55, 56, 57, 97, 98, 99]⟩ : ByteArray) ++ base ++ s ++ ⟨#[122]⟩)).drop (12 + base.size) = bl s ++ [122] := by
  have h : bl ((⟨#[49, 50, 51, 52, 53, 54, 55, 56, 57, 97, 98, 99]⟩ : ByteArray) ++ base ++ s ++ ⟨#[122]⟩) = [49, 50, 51, 52, 53, 54, 55, 56, 57, 97, 98, 99] ++ (bl base ++ (bl s ++ [122])) := by
    simp only [bl_append, List.append_assoc]; rfl
  have h1 : (bl ((⟨#[49, 50, 51, 52, 53, 54, 55, 56, 57, 97, 98, 99]⟩ : ByteArray) ++ base ++ s ++ ⟨#[122]⟩)).drop 12 = bl base ++ (bl s ++ [122]) := by rw [h]; rfl
  refine ⟨h1, ?_⟩
  rw [← List.drop_drop, h1, ← bl_length, List.drop_left]
theorem enc_size {base : ByteArray} {p : Int} {r : Rec} (hd : r.d.size ≤ 2000) : (encS base p r).size ≤ 3000 := by
  cases h : encOk base p r
  · rw [(enc_no h).1]; decide
  · obtain ⟨e1, _, e3, _, _⟩ := enc_yes h
    have s1 := put_len r.l 4
    have s2 := put_len r.d.size 2
    rw [e1, ByteArray.size_append, ByteArray.size_append, ByteArray.size_append]
    omega
/-- The cells of a record in a block, for the walk. -/
theorem Blk.five {w : World} {G : Nat} {p q r s t : Value} {ty : TypeId} (h : Blk w G #[p, q, r, s, t] ty) :
    (w.cell? ⟨G, 0, none⟩ = some p ∧ w.cell? ⟨G, 1, none⟩ = some q ∧ w.cell? ⟨G, 2, none⟩ = some r ∧ w.cell? ⟨G, 3, none⟩ = some s ∧ w.cell? ⟨G, 4, none⟩ = some t) ∧ (w.frozen? ⟨G, 0, none⟩ = false ∧ w.frozen? ⟨G, 1, none⟩ = false ∧ w.frozen? ⟨G, 2, none⟩ = false ∧ w.frozen? ⟨G, 3, none⟩ = false ∧ w.frozen? ⟨G, 4, none⟩ = false) ∧ G < w.heap.size :=
  ⟨⟨h.cell 0, h.cell 1, h.cell 2, h.cell 3, h.cell 4⟩, ⟨h.frozen 0, h.frozen 1, h.frozen 2, h.frozen 3, h.frozen 4⟩, h.lt⟩

set_option maxHeartbeats 8000000 in
set_option maxRecDepth 100000 in
theorem RecordBack_walk (base : ByteArray) (r : Rec) (ttl : Int) (w : World) (hb : base.size ≤ maxLen) (hn : r.n.size ≤ maxLen) (hd : r.d.size ≤ maxLen) (_ : -9223372036854775808 ≤ ttl ∧ ttl ≤ 9223372036854775807) :
    Calls Try.prog 5 #[.string base, recV r, .int .i64 ttl] w fun e w' => e = .returned (.bool true) ∧ Keeps w w' := by
  have hb' := hb
  have hn' := hn
  have hd' := hd
  unfold maxLen at hb' hn' hd'
  have B := Blk.made w #[.string r.n, .int .i64 r.t, .int .i64 r.c, .int .i64 r.l, .string r.d] 24
  have K := (Keeps.refl w).alloc (.cells #[.string r.n, .int .i64 r.t, .int .i64 r.c, .int .i64 r.l, .string r.d] 24)
  have hG : w.heap.size ≤ w.heap.size := Nat.le_refl _
  by_cases l1 : 300 < (base.size : Int)
  · unfold recV
    go_enter Try.func5, Try.ntmps5
    go_wp2_with (go_at_call 8; refine (live6_any _).mono ?_; rintro e w3 ⟨rfl, k3⟩)
    go_ret
    exact ⟨rfl, K.trans k3⟩
  by_cases l2 : 300 < (r.n.size : Int)
  · unfold recV
    go_enter Try.func5, Try.ntmps5
    go_wp2_with (go_at_call 8; refine (live6_any _).mono ?_; rintro e w3 ⟨rfl, k3⟩)
    go_ret
    exact ⟨rfl, K.trans k3⟩
  by_cases l3 : 2000 < (r.d.size : Int)
  · unfold recV
    go_enter Try.func5, Try.ntmps5
    go_wp2_with (go_at_call 8; refine (live6_any _).mono ?_; rintro e w3 ⟨rfl, k3⟩)
    go_ret
    exact ⟨rfl, K.trans k3⟩
  have H1 := hide (fun W => encode_any base 12 r W hb hn (by omega))
  have H2 := hide (fun W => ttl_any base 12 r W hb hn hd)
  have H3 := hide (fun W => rcheck_any r W hn hd)
  have H4 := hide (fun W => refcheck_any base W hb)
  cases he : encOk base 12 r
  · rw [(enc_no he).1] at H1
    rw [(enc_no he).2] at H2
    cases hr : recOk r
    · rw [hr] at H3
      unfold recV at *
      go_enter Try.func5, Try.ntmps5
      go_wp2_with fail
      generalize w.alloc (.cells #[.string r.n, .int .i64 r.t, .int .i64 r.c, .int .i64 r.l, .string r.d] 24) = W at *
      refine (H1.out _).mono ?_
      rintro e wk ⟨rfl, k1⟩
      replace K := K.trans k1
      replace B := B.keeps k1
      clear k1
      obtain ⟨⟨B0, B1, B2, B3, B4⟩, ⟨fB0, fB1, fB2, fB3, fB4⟩, gB⟩ := B.five
      go_wp2_with fail
      refine (H2.out _).mono ?_
      rintro e wk ⟨rfl, k1⟩
      replace K := K.trans k1
      replace B := B.keeps k1
      clear k1
      obtain ⟨⟨B0, B1, B2, B3, B4⟩, ⟨fB0, fB1, fB2, fB3, fB4⟩, gB⟩ := B.five
      go_wp2_with fail
      refine (H3.out _).mono ?_
      rintro e wk ⟨rfl, k1⟩
      replace K := K.trans k1
      replace B := B.keeps k1
      clear k1
      obtain ⟨⟨B0, B1, B2, B3, B4⟩, ⟨fB0, fB1, fB2, fB3, fB4⟩, gB⟩ := B.five
      go_wp2_with fail
      refine (live6_any _).mono ?_
      rintro e wk ⟨rfl, k1⟩
      replace K := K.trans k1
      replace B := B.keeps k1
      clear k1
      obtain ⟨⟨B0, B1, B2, B3, B4⟩, ⟨fB0, fB1, fB2, fB3, fB4⟩, gB⟩ := B.five
      go_wp2
      go_ret
      exact ⟨rfl, K⟩
    · have ho : Nm.okL (bl base) = false := by
        cases h : Nm.okL (bl base)
        · rfl
        · have h2 := ((recOk_spec r).1 hr).1
          simp [encOk, hr, Cm.wrOk, h, h2] at he
      rw [hr] at H3
      rw [ho] at H4
      unfold recV at *
      go_enter Try.func5, Try.ntmps5
      go_wp2_with fail
      generalize w.alloc (.cells #[.string r.n, .int .i64 r.t, .int .i64 r.c, .int .i64 r.l, .string r.d] 24) = W at *
      refine (H1.out _).mono ?_
      rintro e wk ⟨rfl, k1⟩
      replace K := K.trans k1
      replace B := B.keeps k1
      clear k1
      obtain ⟨⟨B0, B1, B2, B3, B4⟩, ⟨fB0, fB1, fB2, fB3, fB4⟩, gB⟩ := B.five
      go_wp2_with fail
      refine (H2.out _).mono ?_
      rintro e wk ⟨rfl, k1⟩
      replace K := K.trans k1
      replace B := B.keeps k1
      clear k1
      obtain ⟨⟨B0, B1, B2, B3, B4⟩, ⟨fB0, fB1, fB2, fB3, fB4⟩, gB⟩ := B.five
      go_wp2_with fail
      refine (H3.out _).mono ?_
      rintro e wk ⟨rfl, k1⟩
      replace K := K.trans k1
      replace B := B.keeps k1
      clear k1
      obtain ⟨⟨B0, B1, B2, B3, B4⟩, ⟨fB0, fB1, fB2, fB3, fB4⟩, gB⟩ := B.five
      go_wp2_with fail
      refine (H4.out _).mono ?_
      rintro e wk ⟨rfl, k1⟩
      replace K := K.trans k1
      replace B := B.keeps k1
      clear k1
      obtain ⟨⟨B0, B1, B2, B3, B4⟩, ⟨fB0, fB1, fB2, fB3, fB4⟩, gB⟩ := B.five
      go_wp2_with fail
      refine (live6_any _).mono ?_
      rintro e wk ⟨rfl, k1⟩
      replace K := K.trans k1
      replace B := B.keeps k1
      clear k1
      obtain ⟨⟨B0, B1, B2, B3, B4⟩, ⟨fB0, fB1, fB2, fB3, fB4⟩, gB⟩ := B.five
      go_wp2
      go_ret
      exact ⟨rfl, K⟩
  · have hs : recOk r = true ∧ Cm.wrOk (bl base) 12 (bl r.n) = true := by simpa [encOk] using he
    have hw := (wrOk_spec _ _ _).1 hs.2
    rw [hs.1] at H3
    rw [hw.1.1] at H4
    obtain ⟨d1, d2⟩ := head_drops base (encS base 12 r)
    obtain ⟨k, hk, hsm, hkz⟩ := dec_enc he d1 (Nat.le_refl _) d2
    have hes := enc_size (base := base) (p := 12) (r := r) (by omega)
    have hMs : ((⟨#[49, 50, 51, 52, 53, 54, 55, 56, 57, 97, 98, 99]⟩ : ByteArray) ++ base ++ encS base 12 r ++ ⟨#[122]⟩).size ≤ 1000000 := by
      rw [ByteArray.size_append, ByteArray.size_append, ByteArray.size_append]
      have q1 : (⟨#[49, 50, 51, 52, 53, 54, 55, 56, 57, 97, 98, 99]⟩ : ByteArray).size = 12 := by decide
      have q2 : (⟨#[122]⟩ : ByteArray).size = 1 := by decide
      omega
    have hD := fun W => decode_any _ ((12 + base.size : Nat) : Int) W hMs (by omega)
    rw [hk] at hD
    have HD := hide hD
    have hS := fun W => refsame_any k r.n W (by unfold maxLen; omega) hn
    rw [hsm] at hS
    have HS := hide hS
    have hne : ((encS base 12 r).toList == []) = false := by
      rw [toList_bl, beq_eq_false_iff_ne]
      intro h
      have hl := bl_length (encS base 12 r)
      rw [h, encS, if_pos he, ByteArray.size_append] at hl
      have := (wr_pos hs.2).1
      simp at hl
      omega
    have hat : 0 ≤ ttlAt base 12 r ∧ ttlAt base 12 r ≤ 1000 := by
      rw [ttlAt, if_pos he]
      have := wr_pos hs.2
      omega
    have HLt := hide (fun t (h0 : 0 ≤ t) (h1 : t ≤ 2147483647) => lay_enc he h0 h1)
    clear hD hS hk hsm d1 d2 hw hs he
    generalize encS base 12 r = S at *
    generalize ttlAt base 12 r = A at *
    have hat2 : (A == -1) = false := by rw [beq_eq_false_iff_ne]; omega
    unfold decV at HD
    by_cases t1 : ttl < 0
    · unfold recV at *
      go_enter Try.func5, Try.ntmps5
      go_wp2_with fail
      generalize w.alloc (.cells #[.string r.n, .int .i64 r.t, .int .i64 r.c, .int .i64 r.l, .string r.d] 24) = W at *
      generalize hGG : w.heap.size = G at B
      have hle : w.heap.size ≤ G := Nat.le_of_eq hGG
      refine (H1.out _).mono ?_
      rintro e wk ⟨rfl, k1⟩
      replace K := K.trans k1
      replace B := B.keeps k1
      clear k1
      obtain ⟨⟨B0, B1, B2, B3, B4⟩, ⟨fB0, fB1, fB2, fB3, fB4⟩, gB⟩ := B.five
      go_wp2_with fail
      refine (H2.out _).mono ?_
      rintro e wk ⟨rfl, k1⟩
      replace K := K.trans k1
      replace B := B.keeps k1
      clear k1
      obtain ⟨⟨B0, B1, B2, B3, B4⟩, ⟨fB0, fB1, fB2, fB3, fB4⟩, gB⟩ := B.five
      go_wp2_with fail
      refine (H3.out _).mono ?_
      rintro e wk ⟨rfl, k1⟩
      replace K := K.trans k1
      replace B := B.keeps k1
      clear k1
      obtain ⟨⟨B0, B1, B2, B3, B4⟩, ⟨fB0, fB1, fB2, fB3, fB4⟩, gB⟩ := B.five
      go_wp2_with fail
      refine (H4.out _).mono ?_
      rintro e wk ⟨rfl, k1⟩
      replace K := K.trans k1
      replace B := B.keeps k1
      clear k1
      obtain ⟨⟨B0, B1, B2, B3, B4⟩, ⟨fB0, fB1, fB2, fB3, fB4⟩, gB⟩ := B.five
      have hcast : ((12 + base.size : Nat) : Int) = 12 + (base.size : Int) := by omega
      rw [hcast] at HD
      go_wp2_with fail
      refine (HD.out _).mono ?_
      rintro e wk ⟨rfl, k1⟩
      have C := Blk.made wk #[.string k, .int .i64 r.t, .int .i64 r.c, .int .i64 r.l, .string r.d] 24
      have k2 := k1.alloc (.cells #[.string k, .int .i64 r.t, .int .i64 r.c, .int .i64 r.l, .string r.d] 24)
      replace K := K.trans k2
      replace B := B.keeps k2
      have hGC : G < wk.heap.size := Nat.lt_of_lt_of_le gB k1.size
      have hwC : w.heap.size ≤ wk.heap.size := by omega
      clear k1 k2 HD
      have hnx : ((12 + base.size + S.size : Nat) : Int) = 12 + (base.size : Int) + (S.size : Int) := by omega
      rw [hnx]
      obtain ⟨⟨B0, B1, B2, B3, B4⟩, ⟨fB0, fB1, fB2, fB3, fB4⟩, gB⟩ := B.five
      obtain ⟨⟨C0, C1, C2, C3, C4⟩, ⟨fC0, fC1, fC2, fC3, fC4⟩, gC⟩ := C.five
      go_wp2_with fail
      generalize wk.alloc (.cells #[.string k, .int .i64 r.t, .int .i64 r.c, .int .i64 r.l, .string r.d] 24) = W2 at *
      generalize wk.heap.size = G2 at *
      refine (HS.out _).mono ?_
      rintro e w5 ⟨rfl, k1⟩
      replace K := K.trans k1
      replace B := B.keeps k1
      replace C := C.keeps k1
      clear k1 B0 B1 B2 B3 B4 fB0 fB1 fB2 fB3 fB4 gB C0 C1 C2 C3 C4 fC0 fC1 fC2 fC3 fC4 gC
      obtain ⟨⟨B0, B1, B2, B3, B4⟩, ⟨fB0, fB1, fB2, fB3, fB4⟩, gB⟩ := B.five
      obtain ⟨⟨C0, C1, C2, C3, C4⟩, ⟨fC0, fC1, fC2, fC3, fC4⟩, gC⟩ := C.five
      have hGne : G ≠ G2 := Nat.ne_of_lt hGC
      have hGne2 : G2 ≠ G := fun e => hGne e.symm
      go_wp2_with fail
      refine (live6_any _).mono ?_
      rintro e w6 ⟨rfl, k6⟩
      go_wp2
      go_ret
      exact ⟨rfl, (K.setC ⟨G2, 0, none⟩ hwC _).trans k6⟩
    by_cases t2 : 2147483648 ≤ ttl
    · unfold recV at *
      go_enter Try.func5, Try.ntmps5
      go_wp2_with fail
      generalize w.alloc (.cells #[.string r.n, .int .i64 r.t, .int .i64 r.c, .int .i64 r.l, .string r.d] 24) = W at *
      generalize hGG : w.heap.size = G at B
      have hle : w.heap.size ≤ G := Nat.le_of_eq hGG
      refine (H1.out _).mono ?_
      rintro e wk ⟨rfl, k1⟩
      replace K := K.trans k1
      replace B := B.keeps k1
      clear k1
      obtain ⟨⟨B0, B1, B2, B3, B4⟩, ⟨fB0, fB1, fB2, fB3, fB4⟩, gB⟩ := B.five
      go_wp2_with fail
      refine (H2.out _).mono ?_
      rintro e wk ⟨rfl, k1⟩
      replace K := K.trans k1
      replace B := B.keeps k1
      clear k1
      obtain ⟨⟨B0, B1, B2, B3, B4⟩, ⟨fB0, fB1, fB2, fB3, fB4⟩, gB⟩ := B.five
      go_wp2_with fail
      refine (H3.out _).mono ?_
      rintro e wk ⟨rfl, k1⟩
      replace K := K.trans k1
      replace B := B.keeps k1
      clear k1
      obtain ⟨⟨B0, B1, B2, B3, B4⟩, ⟨fB0, fB1, fB2, fB3, fB4⟩, gB⟩ := B.five
      go_wp2_with fail
      refine (H4.out _).mono ?_
      rintro e wk ⟨rfl, k1⟩
      replace K := K.trans k1
      replace B := B.keeps k1
      clear k1
      obtain ⟨⟨B0, B1, B2, B3, B4⟩, ⟨fB0, fB1, fB2, fB3, fB4⟩, gB⟩ := B.five
      have hcast : ((12 + base.size : Nat) : Int) = 12 + (base.size : Int) := by omega
      rw [hcast] at HD
      go_wp2_with fail
      refine (HD.out _).mono ?_
      rintro e wk ⟨rfl, k1⟩
      have C := Blk.made wk #[.string k, .int .i64 r.t, .int .i64 r.c, .int .i64 r.l, .string r.d] 24
      have k2 := k1.alloc (.cells #[.string k, .int .i64 r.t, .int .i64 r.c, .int .i64 r.l, .string r.d] 24)
      replace K := K.trans k2
      replace B := B.keeps k2
      have hGC : G < wk.heap.size := Nat.lt_of_lt_of_le gB k1.size
      have hwC : w.heap.size ≤ wk.heap.size := by omega
      clear k1 k2 HD
      have hnx : ((12 + base.size + S.size : Nat) : Int) = 12 + (base.size : Int) + (S.size : Int) := by omega
      rw [hnx]
      obtain ⟨⟨B0, B1, B2, B3, B4⟩, ⟨fB0, fB1, fB2, fB3, fB4⟩, gB⟩ := B.five
      obtain ⟨⟨C0, C1, C2, C3, C4⟩, ⟨fC0, fC1, fC2, fC3, fC4⟩, gC⟩ := C.five
      go_wp2_with fail
      generalize wk.alloc (.cells #[.string k, .int .i64 r.t, .int .i64 r.c, .int .i64 r.l, .string r.d] 24) = W2 at *
      generalize wk.heap.size = G2 at *
      refine (HS.out _).mono ?_
      rintro e w5 ⟨rfl, k1⟩
      replace K := K.trans k1
      replace B := B.keeps k1
      replace C := C.keeps k1
      clear k1 B0 B1 B2 B3 B4 fB0 fB1 fB2 fB3 fB4 gB C0 C1 C2 C3 C4 fC0 fC1 fC2 fC3 fC4 gC
      obtain ⟨⟨B0, B1, B2, B3, B4⟩, ⟨fB0, fB1, fB2, fB3, fB4⟩, gB⟩ := B.five
      obtain ⟨⟨C0, C1, C2, C3, C4⟩, ⟨fC0, fC1, fC2, fC3, fC4⟩, gC⟩ := C.five
      have hGne : G ≠ G2 := Nat.ne_of_lt hGC
      have hGne2 : G2 ≠ G := fun e => hGne e.symm
      go_wp2_with fail
      refine (live6_any _).mono ?_
      rintro e w6 ⟨rfl, k6⟩
      go_wp2
      go_ret
      exact ⟨rfl, (K.setC ⟨G2, 0, none⟩ hwC _).trans k6⟩
    obtain ⟨p1, p2⟩ := HLt.out ttl (by omega) (by omega)
    have H5 := hide (fun W => encode_any base 12 (withL r ttl) W hb hn (by show r.d.size ≤ 1000000; omega))
    have H6 := hide (fun W => refput_any ttl 4 W (by omega))
    have hps := put_len ttl 4
    have H7 := hide (fun W => reflay_any S A (Oct.putS ttl 4) W (by unfold maxLen; omega) (by unfold maxLen; omega) (by omega))
    rw [p1, p2] at H7
    generalize encS base 12 (withL r ttl) = S2 at *
    generalize Oct.putS ttl 4 = P at *
    clear p1 p2 HLt
    unfold recV withL at H5
    unfold recV at *
    go_enter Try.func5, Try.ntmps5
    go_wp2_with fail
    generalize w.alloc (.cells #[.string r.n, .int .i64 r.t, .int .i64 r.c, .int .i64 r.l, .string r.d] 24) = W at *
    generalize hGG : w.heap.size = G at B
    have hle : w.heap.size ≤ G := Nat.le_of_eq hGG
    refine (H1.out _).mono ?_
    rintro e wk ⟨rfl, k1⟩
    replace K := K.trans k1
    replace B := B.keeps k1
    clear k1
    obtain ⟨⟨B0, B1, B2, B3, B4⟩, ⟨fB0, fB1, fB2, fB3, fB4⟩, gB⟩ := B.five
    go_wp2_with fail
    refine (H2.out _).mono ?_
    rintro e wk ⟨rfl, k1⟩
    replace K := K.trans k1
    replace B := B.keeps k1
    clear k1
    obtain ⟨⟨B0, B1, B2, B3, B4⟩, ⟨fB0, fB1, fB2, fB3, fB4⟩, gB⟩ := B.five
    go_wp2_with fail
    refine (H3.out _).mono ?_
    rintro e wk ⟨rfl, k1⟩
    replace K := K.trans k1
    replace B := B.keeps k1
    clear k1
    obtain ⟨⟨B0, B1, B2, B3, B4⟩, ⟨fB0, fB1, fB2, fB3, fB4⟩, gB⟩ := B.five
    go_wp2_with fail
    refine (H4.out _).mono ?_
    rintro e wk ⟨rfl, k1⟩
    replace K := K.trans k1
    replace B := B.keeps k1
    clear k1
    obtain ⟨⟨B0, B1, B2, B3, B4⟩, ⟨fB0, fB1, fB2, fB3, fB4⟩, gB⟩ := B.five
    have hcast : ((12 + base.size : Nat) : Int) = 12 + (base.size : Int) := by omega
    rw [hcast] at HD
    go_wp2_with fail
    refine (HD.out _).mono ?_
    rintro e wk ⟨rfl, k1⟩
    have C := Blk.made wk #[.string k, .int .i64 r.t, .int .i64 r.c, .int .i64 r.l, .string r.d] 24
    have k2 := k1.alloc (.cells #[.string k, .int .i64 r.t, .int .i64 r.c, .int .i64 r.l, .string r.d] 24)
    replace K := K.trans k2
    replace B := B.keeps k2
    have hGC : G < wk.heap.size := Nat.lt_of_lt_of_le gB k1.size
    have hwC : w.heap.size ≤ wk.heap.size := by omega
    clear k1 k2 HD
    have hnx : ((12 + base.size + S.size : Nat) : Int) = 12 + (base.size : Int) + (S.size : Int) := by omega
    rw [hnx]
    obtain ⟨⟨B0, B1, B2, B3, B4⟩, ⟨fB0, fB1, fB2, fB3, fB4⟩, gB⟩ := B.five
    obtain ⟨⟨C0, C1, C2, C3, C4⟩, ⟨fC0, fC1, fC2, fC3, fC4⟩, gC⟩ := C.five
    go_wp2_with fail
    generalize wk.alloc (.cells #[.string k, .int .i64 r.t, .int .i64 r.c, .int .i64 r.l, .string r.d] 24) = W2 at *
    generalize wk.heap.size = G2 at *
    refine (HS.out _).mono ?_
    rintro e w5 ⟨rfl, k1⟩
    replace K := K.trans k1
    replace B := B.keeps k1
    replace C := C.keeps k1
    clear k1 B0 B1 B2 B3 B4 fB0 fB1 fB2 fB3 fB4 gB C0 C1 C2 C3 C4 fC0 fC1 fC2 fC3 fC4 gC
    obtain ⟨⟨B0, B1, B2, B3, B4⟩, ⟨fB0, fB1, fB2, fB3, fB4⟩, gB⟩ := B.five
    obtain ⟨⟨C0, C1, C2, C3, C4⟩, ⟨fC0, fC1, fC2, fC3, fC4⟩, gC⟩ := C.five
    have hGne : G ≠ G2 := Nat.ne_of_lt hGC
    have hGne2 : G2 ≠ G := fun e => hGne e.symm
    go_wp2_with fail
    have K6 : Keeps w (w5.setCell ⟨G2, 0, none⟩ (.string r.n)) := K.setCell (p := ⟨G2, 0, none⟩) hwC _
    have B6 : Blk (w5.setCell ⟨G2, 0, none⟩ (.string r.n)) G _ _ := B.other (a := ⟨G2, 0, none⟩) hGne2 _
    generalize w5.setCell ⟨G2, 0, none⟩ (.string r.n) = W6 at *
    clear B C K B0 B1 B2 B3 B4 fB0 fB1 fB2 fB3 fB4 gB C0 C1 C2 C3 C4 fC0 fC1 fC2 fC3 fC4 gC
    refine (H6.out _).mono ?_
    rintro e w7 ⟨rfl, k7⟩
    replace K6 := K6.trans k7
    replace B6 := B6.keeps k7
    clear k7
    go_wp2_with fail
    refine (H7.out _).mono ?_
    rintro e w8 ⟨rfl, k8⟩
    replace K6 := K6.trans k8
    replace B6 := B6.keeps k8
    clear k8
    obtain ⟨⟨B0, B1, B2, B3, B4⟩, ⟨fB0, fB1, fB2, fB3, fB4⟩, gB⟩ := B6.five
    go_wp2_with fail
    refine (H5.out _).mono ?_
    rintro e w9 ⟨rfl, k9⟩
    have K9 := (K6.setC ⟨G, 3, none⟩ hle _).trans k9
    go_wp2_with fail
    refine (live6_any _).mono ?_
    rintro e w10 ⟨rfl, k10⟩
    go_wp2
    go_ret
    exact ⟨rfl, K9.trans k10⟩
end Go.Proofs.Ythoominldliphaa
