/- What decodeQuestion, decodeHead, sections of layer 8 answer. No condition. -/
import Derived.Test.YtcohceggooockaaMsg
namespace Go.Proofs.Ytcohceggooockaa
open Go.RowKit

theorem Blk.three {w : World} {G : Nat} {p q r : Value} {ty : TypeId} (h : Blk w G #[p, q, r] ty) :
    (w.cell? ⟨G, 0, none⟩ = some p ∧ w.cell? ⟨G, 1, none⟩ = some q ∧ w.cell? ⟨G, 2, none⟩ = some r) ∧ (w.frozen? ⟨G, 0, none⟩ = false ∧ w.frozen? ⟨G, 1, none⟩ = false ∧ w.frozen? ⟨G, 2, none⟩ = false) ∧ G < w.heap.size :=
  ⟨⟨h.cell 0, h.cell 1, h.cell 2⟩, ⟨h.frozen 0, h.frozen 1, h.frozen 2⟩, h.lt⟩
def d1Q (d : D1 Qn) : Value := .tuple #[qnV d.x, .int .i64 d.next, .int .i64 d.e]
def d1R (d : D1 Rec) : Value := .tuple #[recV d.x, .int .i64 d.next, .int .i64 d.e]

theorem decQ_bad {m : ByteArray} {p : Nat} (h : ¬ (Cm.readL (bl m) p).e = 0) : decQ m p = ⟨noQn, 0, (Cm.readL (bl m) p).e⟩ := by rw [decQ, if_neg h]
theorem decQ_cut {m : ByteArray} {p : Nat} (h : (Cm.readL (bl m) p).e = 0) (h2 : ¬ (Cm.readL (bl m) p).next + 4 ≤ m.size) : decQ m p = ⟨noQn, 0, 2⟩ := by rw [decQ, if_pos h, if_neg h2]
theorem decQ_yes {m : ByteArray} {p : Nat} (h : (Cm.readL (bl m) p).e = 0) (h2 : (Cm.readL (bl m) p).next + 4 ≤ m.size) :
    decQ m p = ⟨⟨rrS (Cm.readL (bl m) p), Oct.getN m (Cm.readL (bl m) p).next 2, Oct.getN m (((Cm.readL (bl m) p).next : Int) + 2) 2⟩, (Cm.readL (bl m) p).next + 4, 0⟩ := by rw [decQ, if_pos h, if_pos h2]; rfl

set_option maxHeartbeats 2000000 in
set_option maxRecDepth 100000 in
theorem decq_any (m : ByteArray) (p : Nat) (w : World) (hm2 : m.size ≤ 1000000) (hp : p ≤ 9223372036854775807) :
    Calls Try.prog 25 #[.string m, .int .i64 p] w fun e w' => e = .returned (d1Q (decQ m p)) ∧ Keeps w w' := by
  have hm : m.size ≤ maxLen := by unfold maxLen; omega
  have HR := hide (fun W => read_any m p W hm (by omega))
  have O0 := Blk.made w #[.string ⟨#[]⟩, .int .i64 0, .int .i64 0] 42
  have K := (Keeps.refl w).alloc (.cells #[.string ⟨#[]⟩, .int .i64 0, .int .i64 0] 42)
  by_cases he : (Cm.readL (bl m) p).e = 0
  · obtain ⟨z1, z2⟩ := rrS_size (l := bl m) (p := p) rfl
    rw [bl_length] at z2
    have HY := hide (fun h => decQ_yes (m := m) (p := p) he h)
    have HC := hide (fun h => decQ_cut (m := m) (p := p) he h)
    rw [he] at HR
    generalize decQ m p = D at *
    generalize rrS (Cm.readL (bl m) p) = N at *
    generalize (Cm.readL (bl m) p).next = i at *
    clear he
    go_enter Try.func25, Try.ntmps25
    go_wp2_with fail
    refine (HR.out _).mono ?_
    rintro e wk ⟨rfl, k1⟩
    replace K := K.trans k1
    obtain ⟨⟨c0, c1, c2⟩, ⟨f0, f1, f2⟩, hg⟩ := (O0.keeps k1).three
    clear O0 k1
    generalize hGG : w.heap.size = G at *
    have hle : w.heap.size ≤ G := Nat.le_of_eq hGG
    clear hGG
    go_wp2_with fail
    refine (get_any _ _ _ _ hm (by omega)).mono ?_
    rintro e w1 ⟨rfl, hw1⟩
    subst hw1
    go_wp2_with fail
    refine (get_any _ _ _ _ hm (by omega)).mono ?_
    rintro e w1 ⟨rfl, hw1⟩
    subst hw1
    rw [getOk_nat m _ 2 (by omega) (by decide), getOk_nat m _ 2 (by omega) (by decide)]
    by_cases hin : i + 4 ≤ m.size
    · have HD := hide (HY.out hin)
      rw [decide_eq_true (by omega), decide_eq_true (by omega)]
      generalize Oct.getN m i 2 = A1 at *
      generalize Oct.getN m ((i : Int) + 2) 2 = A2 at *
      go_wp2
      refine bodyPost_ret (v := .tuple #[.agg #[.string N, .int .i64 A1, .int .i64 A2], .int .i64 ((i : Int) + 4), .int .i64 0]) (by simp [results, Try.results25, go_sem, c0, c1, c2]) rfl ⟨?_, ((K.setCell (p := ⟨G, 0, none⟩) hle _).setCell (p := ⟨G, 1, none⟩) hle _).setCell (p := ⟨G, 2, none⟩) hle _⟩
      rw [HD.out]
      rfl
    · have HD := hide (HC.out hin)
      rw [decide_eq_false (p := (i : Int) + 2 + 2 ≤ m.size) (by omega)]
      cases hd : decide ((i : Int) + 2 ≤ m.size)
      all_goals
        go_wp2
        exact bodyPost_ret (v := d1Q ⟨noQn, 0, 2⟩) (by simp [results, Try.results25, go_sem, d1Q, noQn, qnV, c0, c1, c2]) rfl ⟨by rw [HD.out], ((K.setCell (p := ⟨G, 0, none⟩) hle _).setCell (p := ⟨G, 1, none⟩) hle _).setCell (p := ⟨G, 2, none⟩) hle _⟩
  · have HD := hide (decQ_bad he)
    generalize decQ m p = D at *
    generalize Cm.readL (bl m) p = R at *
    go_enter Try.func25, Try.ntmps25
    go_wp2_with fail
    refine (HR.out _).mono ?_
    rintro e wk ⟨rfl, k1⟩
    have hne : ((R.e : Int) != 0) = true := by rw [bne_iff_ne]; omega
    replace K := K.trans k1
    obtain ⟨⟨c0, c1, c2⟩, ⟨f0, f1, f2⟩, hg⟩ := (O0.keeps k1).three
    clear O0 k1
    generalize hGG : w.heap.size = G at *
    have hle : w.heap.size ≤ G := Nat.le_of_eq hGG
    clear hGG
    go_wp2
    exact bodyPost_ret (v := d1Q ⟨noQn, 0, R.e⟩) (by simp [results, Try.results25, go_sem, d1Q, noQn, qnV, c0, c1, c2]) rfl ⟨by rw [HD.out], ((K.setCell (p := ⟨G, 0, none⟩) hle _).setCell (p := ⟨G, 1, none⟩) hle _).setCell (p := ⟨G, 2, none⟩) hle _⟩

/-- The places of a message's lists, by the number of its block. -/
def secV (G : Nat) : Value := .agg #[.pointer (some ⟨G, 3, none⟩), .pointer (some ⟨G, 4, none⟩), .pointer (some ⟨G, 5, none⟩)]
set_option maxHeartbeats 2000000 in
theorem sections_any (G : Nat) (w : World) :
    Calls Try.prog 26 #[.pointer (some ⟨G, 0, none⟩)] w fun e w' => e = .returned (secV G) ∧ Keeps w w' := by
  have O0 := (Blk.made w #[.pointer none, .pointer none, .pointer none] 52).three
  have K := (Keeps.refl w).alloc (.cells #[.pointer none, .pointer none, .pointer none] 52)
  obtain ⟨⟨c0, c1, c2⟩, ⟨f0, f1, f2⟩, hg⟩ := O0
  go_enter Try.func26, Try.ntmps26
  go_wp2_with fail
  generalize w.alloc (.cells #[.pointer none, .pointer none, .pointer none] 52) = W at *
  generalize hGG : w.heap.size = B at *
  have hle : w.heap.size ≤ B := Nat.le_of_eq hGG
  clear hGG
  go_region
  go_wp2
  exact bodyPost_ret (v := secV G) (by simp [results, Try.results26, go_sem, secV, c0, c1, c2]) rfl ⟨rfl, Keeps.drew (((K.setCell (p := ⟨B, 0, none⟩) hle _).setCell (p := ⟨B, 1, none⟩) hle _).setCell (p := ⟨B, 2, none⟩) hle _)⟩

def hc (m : ByteArray) (j k : Nat) : Value := .int .i64 (if k < j then num m k else 0)
def headA (m : ByteArray) (j : Nat) : Array Value := #[hc m j 0, hc m j 1, hc m j 2, hc m j 3, hc m j 4, hc m j 5]
theorem headA_zero (m : ByteArray) : headA m 0 = #[.int .i64 0, .int .i64 0, .int .i64 0, .int .i64 0, .int .i64 0, .int .i64 0] := rfl
theorem headA_six (m : ByteArray) : headA m 6 = #[.int .i64 (num m 0), .int .i64 (num m 1), .int .i64 (num m 2), .int .i64 (num m 3), .int .i64 (num m 4), .int .i64 (num m 5)] := rfl
theorem headA_step (m : ByteArray) (j : Nat) (hj : j < 6) : (headA m j).setIfInBounds j (.int .i64 (num m j)) = headA m (j + 1) := by
  rcases (show j = 0 ∨ j = 1 ∨ j = 2 ∨ j = 3 ∨ j = 4 ∨ j = 5 by omega) with rfl | rfl | rfl | rfl | rfl | rfl <;> rfl
/-- What decodeHead answers. -/
def hd (m : ByteArray) (k : Nat) : Int := if 12 ≤ m.size then num m k else 0
def hdV (m : ByteArray) : Value := .tuple #[.agg #[.int .i64 (hd m 0), .int .i64 (hd m 1), .int .i64 (hd m 2), .int .i64 (hd m 3), .int .i64 (hd m 4), .int .i64 (hd m 5)], .bool (decide (12 ≤ m.size))]
theorem hdV_yes {m : ByteArray} (h : 12 ≤ m.size) : hdV m = .tuple #[.agg (headA m 6), .bool true] := by simp [hdV, hd, h, headA, hc]
theorem hdV_no {m : ByteArray} (h : ¬ 12 ≤ m.size) : hdV m = .tuple #[.agg (headA m 0), .bool false] := by simp [hdV, hd, h, headA, hc]
theorem Blk.six {w : World} {G : Nat} {p q r s t u : Value} {ty : TypeId} (h : Blk w G #[p, q, r, s, t, u] ty) :
    (w.cell? ⟨G, 0, none⟩ = some p ∧ w.cell? ⟨G, 1, none⟩ = some q ∧ w.cell? ⟨G, 2, none⟩ = some r ∧ w.cell? ⟨G, 3, none⟩ = some s ∧ w.cell? ⟨G, 4, none⟩ = some t ∧ w.cell? ⟨G, 5, none⟩ = some u) ∧
    (w.frozen? ⟨G, 0, none⟩ = false ∧ w.frozen? ⟨G, 1, none⟩ = false ∧ w.frozen? ⟨G, 2, none⟩ = false ∧ w.frozen? ⟨G, 3, none⟩ = false ∧ w.frozen? ⟨G, 4, none⟩ = false ∧ w.frozen? ⟨G, 5, none⟩ = false) ∧ G < w.heap.size :=
  ⟨⟨h.cell 0, h.cell 1, h.cell 2, h.cell 3, h.cell 4, h.cell 5⟩, ⟨h.frozen 0, h.frozen 1, h.frozen 2, h.frozen 3, h.frozen 4, h.frozen 5⟩, h.lt⟩
theorem Keeps.six {a b : World} (h : Keeps a b) (G : Nat) (hle : a.heap.size ≤ G) (p q r s t u : Value) : Keeps a ((((((b.setCell ⟨G, 0, none⟩ p).setCell ⟨G, 1, none⟩ q).setCell ⟨G, 2, none⟩ r).setCell ⟨G, 3, none⟩ s).setCell ⟨G, 4, none⟩ t).setCell ⟨G, 5, none⟩ u) :=
  (((((h.setC _ hle _).setC _ hle _).setC _ hle _).setC _ hle _).setC _ hle _).setC _ hle _

set_option maxHeartbeats 4000000 in
set_option maxRecDepth 100000 in
theorem head_any (m : ByteArray) (w : World) (hm : m.size ≤ maxLen) :
    Calls Try.prog 23 #[.string m] w fun e w' => e = .returned (hdV m) ∧ Keeps w w' := by
  have B1 := (Blk.made w (headA m 0) 45).alloc (.cells (headA m 0) 45)
  have B2 := Blk.made (w.alloc (.cells (headA m 0) 45)) (headA m 0) 45
  have K := ((Keeps.refl w).alloc (.cells (headA m 0) 45)).alloc (.cells (headA m 0) 45)
  rw [show (w.alloc (.cells (headA m 0) 45)).heap.size = w.heap.size + 1 by simp] at B2
  have HB1 := hide B1
  have HB2 := hide B2
  have HK := hide K
  clear B1 B2 K
  have HY := hide (@hdV_yes m)
  have HN := hide (@hdV_no m)
  generalize hdV m = V at *
  rw [headA_zero] at HB1 HB2 HK
  go_enter Try.func23, Try.ntmps23
  go_wp2_with fail
  generalize (w.alloc (.cells #[.int .i64 0, .int .i64 0, .int .i64 0, .int .i64 0, .int .i64 0, .int .i64 0] 45)).alloc (.cells #[.int .i64 0, .int .i64 0, .int .i64 0, .int .i64 0, .int .i64 0, .int .i64 0] 45) = W at *
  generalize hGG : w.heap.size = G at *
  have hle : w.heap.size ≤ G := Nat.le_of_eq hGG
  clear hGG
  go_loopw [8] (fun i wr => ∃ j : Nat, j ≤ 6 ∧ 2 * j ≤ m.size ∧ i = .int .i64 j ∧ Blk wr (G + 1) (headA m j) 45 ∧ Blk wr G #[.int .i64 0, .int .i64 0, .int .i64 0, .int .i64 0, .int .i64 0, .int .i64 0] 45 ∧ Keeps w wr) (fun i _ => 6 - (intOf i).toNat)
  case atStart => exact ⟨0, by omega, by omega, rfl, HB2.out, HB1.out, HK.out⟩
  case round =>
    clear HB1 HB2 HK
    obtain ⟨j, hj, hj2, rfl, b2, b1, K0⟩ := hrel
    have K := hide K0
    clear K0
    obtain ⟨⟨c0, c1, c2, c3, c4, c5⟩, ⟨f0, f1, f2, f3, f4, f5⟩, hg⟩ := b1.six
    by_cases hlt : j < 6
    · by_cases hin : 2 * j + 2 ≤ m.size
      · have g1 : Oct.getOk m ((j : Int) * 2) 2 = true := by rw [getOk_nat m _ 2 (by omega) (by decide), decide_eq_true (by omega)]
        have g2 : Oct.getN m ((j : Int) * 2) 2 = num m j := by rw [num]; congr 1; omega
        have hc : wr.cell? ⟨G + 1, j, none⟩ = some (hc m j j) := by
          rw [b2.cell j]
          rcases (show j = 0 ∨ j = 1 ∨ j = 2 ∨ j = 3 ∨ j = 4 ∨ j = 5 by omega) with rfl | rfl | rfl | rfl | rfl | rfl <;> rfl
        have hf := b2.frozen j
        have b3 := b2.set j (.int .i64 (num m j))
        rw [headA_step m j hlt] at b3
        have b4 := b1.other (a := ⟨G + 1, j, none⟩) (by simp) (.int .i64 (num m j))
        have HB3 := hide b3
        have HB4 := hide b4
        clear b3 b4 b2 b1
        go_wp2_with (go_at_call 52; refine (get_any _ _ _ _ hm (by omega)).mono ?_; rintro e w1 ⟨rfl, hw1⟩; subst hw1)
        go_roundw
        case rel => exact ⟨j + 1, by omega, by omega, by go_num, HB3.out, HB4.out, K.out.setC _ (by simp; omega) _⟩
        case measure => simp [intOf]; omega
      · have g1 : Oct.getOk m ((j : Int) * 2) 2 = false := by rw [getOk_nat m _ 2 (by omega) (by decide), decide_eq_false (by omega)]
        have HV := hide (HN.out (by omega))
        rw [headA_zero] at HV
        go_wp2_with (go_at_call 52; refine (get_any _ _ _ _ hm (by omega)).mono ?_; rintro e w1 ⟨rfl, hw1⟩; subst hw1)
        refine bodyPost_ret (v := .tuple #[.agg #[.int .i64 0, .int .i64 0, .int .i64 0, .int .i64 0, .int .i64 0, .int .i64 0], .bool false]) (by simp [results, Try.results23, go_sem, c0, c1, c2, c3, c4, c5]) rfl ⟨by rw [HV.out], ?_⟩
        exact K.out.six G hle _ _ _ _ _ _
    · obtain rfl : j = 6 := by omega
      have HV := hide (HY.out (by omega))
      rw [headA_six] at HV b2
      obtain ⟨⟨d0, d1, d2, d3, d4, d5⟩, _, hg2⟩ := b2.six
      generalize num m 0 = v0 at *
      generalize num m 1 = v1 at *
      generalize num m 2 = v2 at *
      generalize num m 3 = v3 at *
      generalize num m 4 = v4 at *
      generalize num m 5 = v5 at *
      clear b1 b2
      go_wp2
      refine bodyPost_ret (v := .tuple #[.agg #[.int .i64 v0, .int .i64 v1, .int .i64 v2, .int .i64 v3, .int .i64 v4, .int .i64 v5], .bool true]) (by simp [results, Try.results23, go_sem, c0, c1, c2, c3, c4, c5]) rfl ⟨by rw [HV.out], ?_⟩
      exact K.out.six G hle _ _ _ _ _ _
end Go.Proofs.Ytcohceggooockaa
