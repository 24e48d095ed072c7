/- What slices.Equal, and the document's Same of layer 6, answer of questions and records; what Same of layer 8 answers. No condition. -/
import Derived.Test.YtcohceggooockaaMsgW6
namespace Go.Proofs.Ytcohceggooockaa
open Go.RowKit

theorem bytes_eq (a b : ByteArray) : a.toList = b.toList ↔ a = b := by
  constructor
  · intro h
    apply bl_inj
    rw [← toList_bl, ← toList_bl, h]
  · intro h; rw [h]
theorem neq_qn (p q : Qn) (w : World) : (binOp .neq 42 (.agg #[.string p.n, .int .i64 p.t, .int .i64 p.c]) (.agg #[.string q.n, .int .i64 q.t, .int .i64 q.c])).run Try.prog w = .ok (.bool (!decide (p = q))) w := by
  obtain ⟨a, x, y⟩ := p
  obtain ⟨b, z, u⟩ := q
  simp [go_sem, bytes_eq]
  by_cases h1 : a = b
  · by_cases h2 : x = z
    · by_cases h3 : y = u
      · simp [h1, h2, h3]
      · simp [h1, h2, h3]
    · simp [h1, h2]
  · simp [h1]
theorem neq_rec (p q : Rec) (w : World) : (binOp .neq 44 (.agg #[.string p.n, .int .i64 p.t, .int .i64 p.c, .int .i64 p.l, .string p.d]) (.agg #[.string q.n, .int .i64 q.t, .int .i64 q.c, .int .i64 q.l, .string q.d])).run Try.prog w = .ok (.bool (!decide (p = q))) w := by
  obtain ⟨a, x, y, s, c⟩ := p
  obtain ⟨b, z, u, t, d⟩ := q
  simp [go_sem, bytes_eq]
  by_cases h1 : a = b
  · by_cases h2 : x = z
    · by_cases h3 : y = u
      · by_cases h4 : s = t
        · by_cases h5 : c = d
          · simp [h1, h2, h3, h4, h5]
          · simp [h1, h2, h3, h4, h5]
        · simp [h1, h2, h3, h4]
      · simp [h1, h2, h3]
    · simp [h1, h2]
  · simp [h1]
theorem take8_step {α : Type} {l k : List α} {j : Nat} (hl : j < l.length) (hk : j < k.length) (h : l.take j = k.take j) (e : l[j] = k[j]) : l.take (j + 1) = k.take (j + 1) := by
  rw [List.take_succ_eq_append_getElem hl, List.take_succ_eq_append_getElem hk, h, e]
theorem ne_at {α : Type} {l k : List α} {j : Nat} (hl : j < l.length) (hk : j < k.length) (e : ¬ l[j] = k[j]) : ¬ l = k := by
  intro h
  subst h
  exact e rfl

set_option maxHeartbeats 4000000 in
set_option maxRecDepth 100000 in
theorem equalQ_any (v u : Value) (l k : List Qn) (w : World) (hv : ReadRow w v 3 (l.map qnL)) (hu : ReadRow w u 3 (k.map qnL)) (hl : l.length ≤ maxLen) (hk : k.length ≤ maxLen) :
    Calls Try.prog 48 #[v, u] w fun e w' => e = .returned (.bool (decide (l = k))) ∧ Keeps w w' := by
  have hl' := hl
  have hk' := hk
  unfold maxLen at hl' hk'
  obtain ⟨a, cap, h1⟩ := hv.len
  obtain ⟨a2, cap2, h2⟩ := hu.len
  rw [List.length_map] at h1 h2
  subst h1 h2
  by_cases hlen : l.length = k.length
  · have hne : ((l.length : Int) != (k.length : Int)) = false := by rw [hlen]; simp
    go_enter Try.func48, Try.ntmps48
    go_wp2
    go_loopw [13] (fun i wr => ∃ j : Nat, j ≤ l.length ∧ i = .int .i64 j ∧ Hid (l.take j = k.take j) ∧ Keeps w wr) (fun i _ => l.length - (intOf i).toNat)
    case atStart => exact ⟨0, by omega, rfl, by simp [Hid], Keeps.refl _⟩
    case round =>
      obtain ⟨j, hj, rfl, HA, K⟩ := hrel
      by_cases hlt : j < l.length
      · have hv2 := hv.keeps K
        have hu2 := hu.keeps K
        have hlt2 : j < k.length := by omega
        have i2 : (j : Int) < (l.length : Int) := by omega
        have i3 : (j : Int) < (k.length : Int) := by omega
        have i0 : (0 : Int) ≤ (j : Int) := by omega
        obtain ⟨b, off, rfl, _, _⟩ := hv2.parts (by rw [List.length_map]; omega)
        obtain ⟨b2, off2, rfl, _, _⟩ := hu2.parts (by rw [List.length_map]; omega)
        obtain ⟨c0, c1, c2⟩ := row3 hv2 hlt
        obtain ⟨e0, e1, e2⟩ := row3 hu2 hlt2
        have HS := hide (fun e => take8_step hlt hlt2 HA.out e)
        have HN := hide (fun e => ne_at hlt hlt2 e)
        have rn := neq_qn l[j] k[j]
        generalize hoo : off + j * 3 = o at *
        generalize hoo2 : off2 + j * 3 = o2 at *
        generalize l[j] = x at *
        generalize k[j] = y at *
        clear hv2 hu2 hv hu
        by_cases he : x = y
        · have HE := hide (HS.out he)
          rw [decide_eq_true he] at rn
          clear he HS HN HA
          go_wp2_with fail
          go_region
          go_wp2
          go_roundw
          case rel => exact ⟨j + 1, by omega, by go_num, HE, K.drew⟩
          case measure => simp [intOf]; omega
        · have HE := hide (HN.out he)
          rw [decide_eq_false he] at rn
          clear he HS HN HA
          go_wp2_with fail
          go_region
          go_wp2
          go_ret
          exact ⟨ret_bool (by rw [decide_eq_false HE.out]), K.drew⟩
      · obtain rfl : j = l.length := by omega
        have HE : Hid (l = k) := by
          have := HA.out
          rw [List.take_length, hlen, List.take_length] at this
          exact this
        go_wp2
        go_ret
        exact ⟨ret_bool (by rw [decide_eq_true HE.out]), K⟩
  · have hne : ((l.length : Int) != (k.length : Int)) = true := by rw [bne_iff_ne]; omega
    have HE : Hid (¬ l = k) := fun h => hlen (by rw [h])
    go_enter Try.func48, Try.ntmps48
    go_wp2
    go_ret
    exact ⟨ret_bool (by rw [decide_eq_false HE.out]), Keeps.refl _⟩

set_option maxHeartbeats 4000000 in
set_option maxRecDepth 100000 in
theorem equalR_any (v u : Value) (l k : List Rec) (w : World) (hv : ReadRow w v 5 (l.map recL8)) (hu : ReadRow w u 5 (k.map recL8)) (hl : l.length ≤ maxLen) (hk : k.length ≤ maxLen) :
    Calls Try.prog 49 #[v, u] w fun e w' => e = .returned (.bool (decide (l = k))) ∧ Keeps w w' := by
  have hl' := hl
  have hk' := hk
  unfold maxLen at hl' hk'
  obtain ⟨a, cap, h1⟩ := hv.len
  obtain ⟨a2, cap2, h2⟩ := hu.len
  rw [List.length_map] at h1 h2
  subst h1 h2
  by_cases hlen : l.length = k.length
  · have hne : ((l.length : Int) != (k.length : Int)) = false := by rw [hlen]; simp
    go_enter Try.func49, Try.ntmps49
    go_wp2
    go_loopw [13] (fun i wr => ∃ j : Nat, j ≤ l.length ∧ i = .int .i64 j ∧ Hid (l.take j = k.take j) ∧ Keeps w wr) (fun i _ => l.length - (intOf i).toNat)
    case atStart => exact ⟨0, by omega, rfl, by simp [Hid], Keeps.refl _⟩
    case round =>
      obtain ⟨j, hj, rfl, HA, K⟩ := hrel
      by_cases hlt : j < l.length
      · have hv2 := hv.keeps K
        have hu2 := hu.keeps K
        have hlt2 : j < k.length := by omega
        have i2 : (j : Int) < (l.length : Int) := by omega
        have i3 : (j : Int) < (k.length : Int) := by omega
        have i0 : (0 : Int) ≤ (j : Int) := by omega
        obtain ⟨b, off, rfl, _, _⟩ := hv2.parts (by rw [List.length_map]; omega)
        obtain ⟨b2, off2, rfl, _, _⟩ := hu2.parts (by rw [List.length_map]; omega)
        obtain ⟨c0, c1, c2, c3, c4⟩ := row5 hv2 hlt
        obtain ⟨e0, e1, e2, e3, e4⟩ := row5 hu2 hlt2
        have HS := hide (fun e => take8_step hlt hlt2 HA.out e)
        have HN := hide (fun e => ne_at hlt hlt2 e)
        have rn := neq_rec l[j] k[j]
        generalize hoo : off + j * 5 = o at *
        generalize hoo2 : off2 + j * 5 = o2 at *
        generalize l[j] = x at *
        generalize k[j] = y at *
        clear hv2 hu2 hv hu
        by_cases he : x = y
        · have HE := hide (HS.out he)
          rw [decide_eq_true he] at rn
          clear he HS HN HA
          go_wp2_with fail
          go_region
          go_wp2
          go_roundw
          case rel => exact ⟨j + 1, by omega, by go_num, HE, K.drew⟩
          case measure => simp [intOf]; omega
        · have HE := hide (HN.out he)
          rw [decide_eq_false he] at rn
          clear he HS HN HA
          go_wp2_with fail
          go_region
          go_wp2
          go_ret
          exact ⟨ret_bool (by rw [decide_eq_false HE.out]), K.drew⟩
      · obtain rfl : j = l.length := by omega
        have HE : Hid (l = k) := by
          have := HA.out
          rw [List.take_length, hlen, List.take_length] at this
          exact this
        go_wp2
        go_ret
        exact ⟨ret_bool (by rw [decide_eq_true HE.out]), K⟩
  · have hne : ((l.length : Int) != (k.length : Int)) = true := by rw [bne_iff_ne]; omega
    have HE : Hid (¬ l = k) := fun h => hlen (by rw [h])
    go_enter Try.func49, Try.ntmps49
    go_wp2
    go_ret
    exact ⟨ret_bool (by rw [decide_eq_false HE.out]), Keeps.refl _⟩

set_option maxHeartbeats 4000000 in
set_option maxRecDepth 100000 in
theorem refsame6_any (v u : Value) (l k : List Rec) (w : World) (hv : ReadRow w v 5 (l.map recL8)) (hu : ReadRow w u 5 (k.map recL8)) (hl : l.length ≤ maxLen) (hk : k.length ≤ maxLen) :
    Calls Try.prog 32 #[v, u] w fun e w' => e = .returned (.bool (decide (l = k))) ∧ Keeps w w' := by
  have hl' := hl
  have hk' := hk
  unfold maxLen at hl' hk'
  obtain ⟨a, cap, h1⟩ := hv.len
  obtain ⟨a2, cap2, h2⟩ := hu.len
  rw [List.length_map] at h1 h2
  subst h1 h2
  by_cases hlen : l.length = k.length
  · have hne : ((l.length : Int) != (k.length : Int)) = false := by rw [hlen]; simp
    go_enter Try.func32, Try.ntmps32
    go_wp2
    go_loopw [5] (fun i wr => ∃ j : Nat, j ≤ l.length ∧ i = .int .i64 j ∧ Hid (l.take j = k.take j) ∧ Keeps w wr) (fun i _ => l.length - (intOf i).toNat)
    case atStart => exact ⟨0, by omega, rfl, by simp [Hid], Keeps.refl _⟩
    case round =>
      obtain ⟨j, hj, rfl, HA, K⟩ := hrel
      by_cases hlt : j < l.length
      · have hv2 := hv.keeps K
        have hu2 := hu.keeps K
        have hlt2 : j < k.length := by omega
        have i2 : (j : Int) < (l.length : Int) := by omega
        have i3 : (j : Int) < (k.length : Int) := by omega
        have i0 : (0 : Int) ≤ (j : Int) := by omega
        obtain ⟨b, off, rfl, _, _⟩ := hv2.parts (by rw [List.length_map]; omega)
        obtain ⟨b2, off2, rfl, _, _⟩ := hu2.parts (by rw [List.length_map]; omega)
        obtain ⟨c0, c1, c2, c3, c4⟩ := row5 hv2 hlt
        obtain ⟨e0, e1, e2, e3, e4⟩ := row5 hu2 hlt2
        have HS := hide (fun e => take8_step hlt hlt2 HA.out e)
        have HN := hide (fun e => ne_at hlt hlt2 e)
        have rn := neq_rec l[j] k[j]
        generalize hoo : off + j * 5 = o at *
        generalize hoo2 : off2 + j * 5 = o2 at *
        generalize l[j] = x at *
        generalize k[j] = y at *
        clear hv2 hu2 hv hu
        by_cases he : x = y
        · have HE := hide (HS.out he)
          rw [decide_eq_true he] at rn
          clear he HS HN HA
          go_wp2_with fail
          go_region
          go_wp2
          go_roundw
          case rel => exact ⟨j + 1, by omega, by go_num, HE, K.drew⟩
          case measure => simp [intOf]; omega
        · have HE := hide (HN.out he)
          rw [decide_eq_false he] at rn
          clear he HS HN HA
          go_wp2_with fail
          go_region
          go_wp2
          go_ret
          exact ⟨ret_bool (by rw [decide_eq_false HE.out]), K.drew⟩
      · obtain rfl : j = l.length := by omega
        have HE : Hid (l = k) := by
          have := HA.out
          rw [List.take_length, hlen, List.take_length] at this
          exact this
        go_wp2
        go_ret
        exact ⟨ret_bool (by rw [decide_eq_true HE.out]), K⟩
  · have hne : ((l.length : Int) != (k.length : Int)) = true := by rw [bne_iff_ne]; omega
    have HE : Hid (¬ l = k) := fun h => hlen (by rw [h])
    go_enter Try.func32, Try.ntmps32
    go_wp2
    go_ret
    exact ⟨ret_bool (by rw [decide_eq_false HE.out]), Keeps.refl _⟩

theorem Six8.keeps {a b c : Addr} {x y z : Value} {w w' : World} (h : w.cell? a = some x ∧ w.cell? b = some y ∧ w.cell? c = some z ∧ a.block < w.heap.size ∧ b.block < w.heap.size ∧ c.block < w.heap.size) (k : Keeps w w') :
    w'.cell? a = some x ∧ w'.cell? b = some y ∧ w'.cell? c = some z ∧ a.block < w'.heap.size ∧ b.block < w'.heap.size ∧ c.block < w'.heap.size :=
  ⟨(Below.cell k h.2.2.2.1).trans h.1, (Below.cell k h.2.2.2.2.1).trans h.2.1, (Below.cell k h.2.2.2.2.2).trans h.2.2.1, Nat.lt_of_lt_of_le h.2.2.2.1 k.size, Nat.lt_of_lt_of_le h.2.2.2.2.1 k.size, Nat.lt_of_lt_of_le h.2.2.2.2.2 k.size⟩
theorem ms_eq (m k : Ms) : decide (m = k) = (decide (m.id = k.id) && decide (m.bits = k.bits) && decide (m.qs = k.qs) && decide (m.an = k.an) && decide (m.ns = k.ns) && decide (m.ar = k.ar)) := by
  obtain ⟨a, b, c, d, e, f⟩ := m
  obtain ⟨a', b', c', d', e', f'⟩ := k
  simp only [Ms.mk.injEq, Bool.decide_and, Bool.and_assoc]
/-- Two messages that were boxed. -/
def MsLens (m : Ms) : Prop := m.qs.length ≤ maxLen ∧ m.an.length ≤ maxLen ∧ m.ns.length ≤ maxLen ∧ m.ar.length ≤ maxLen
theorem MsFine.lens {m : Ms} (h : MsFine m) : MsLens m := ⟨h.1.1, h.2.1.1, h.2.2.1.1, h.2.2.2.1⟩

set_option maxHeartbeats 8000000 in
set_option maxRecDepth 100000 in
theorem Same_any (v u : Value) (m k : Ms) (w : World) (hm : MsAt w v m) (hk : MsAt w u k) (lm : MsLens m) (lk : MsLens k) :
    Calls Try.prog 20 #[v, u] w fun e w' => e = .returned (.bool (decide (m = k))) ∧ Keeps w w' := by
  obtain ⟨vq, va, vn, vr, rfl, rq, ra, rn, rr⟩ := hm
  obtain ⟨uq, ua, un, ur, rfl, sq, sa, sn, sr⟩ := hk
  have HM := hide (ms_eq m k)
  have HQ := hide (fun W (h : Keeps w W) => equalQ_any vq uq m.qs k.qs W (rq.keeps h) (sq.keeps h) lm.1 lk.1)
  have HA := hide (fun W (h : Keeps w W) => equalR_any va ua m.an k.an W (ra.keeps h) (sa.keeps h) lm.2.1 lk.2.1)
  have HN := hide (fun W (h : Keeps w W) => equalR_any vn un m.ns k.ns W (rn.keeps h) (sn.keeps h) lm.2.2.1 lk.2.2.1)
  have HR := hide (fun W (h : Keeps w W) => equalR_any vr ur m.ar k.ar W (rr.keeps h) (sr.keeps h) lm.2.2.2 lk.2.2.2)
  clear rq ra rn rr sq sa sn sr
  have B1 := (Blk.made w #[.int .i64 m.id, .int .i64 m.bits, vq, va, vn, vr] 26).alloc (.cells #[.int .i64 k.id, .int .i64 k.bits, uq, ua, un, ur] 26)
  have B2 := Blk.made (w.alloc (.cells #[.int .i64 m.id, .int .i64 m.bits, vq, va, vn, vr] 26)) #[.int .i64 k.id, .int .i64 k.bits, uq, ua, un, ur] 26
  rw [show (w.alloc (.cells #[.int .i64 m.id, .int .i64 m.bits, vq, va, vn, vr] 26)).heap.size = w.heap.size + 1 by simp] at B2
  have K := ((Keeps.refl w).alloc (.cells #[.int .i64 m.id, .int .i64 m.bits, vq, va, vn, vr] 26)).alloc (.cells #[.int .i64 k.id, .int .i64 k.bits, uq, ua, un, ur] 26)
  replace B1 := hide B1
  replace B2 := hide B2
  replace K := hide K
  generalize decide (m = k) = R at *
  generalize m.id = I at *
  generalize m.bits = J at *
  generalize k.id = I2 at *
  generalize k.bits = J2 at *
  generalize decide (m.qs = k.qs) = XQ at *
  generalize decide (m.an = k.an) = XA at *
  generalize decide (m.ns = k.ns) = XN at *
  generalize decide (m.ar = k.ar) = XR at *
  by_cases hI : I = I2
  · by_cases hJ : J = J2
    · rw [decide_eq_true hI, decide_eq_true hJ] at HM
      subst hI hJ
      go_enter Try.func20, Try.ntmps20
      go_wp2_with fail
      generalize (w.alloc (.cells #[.int .i64 I, .int .i64 J, vq, va, vn, vr] 26)).alloc (.cells #[.int .i64 I, .int .i64 J, uq, ua, un, ur] 26) = W at *
      generalize w.heap.size = M at *
      refine (HQ.out _ K.out).mono ?_
      rintro e w1 ⟨rfl, k1⟩
      replace B1 := hide (B1.out.keeps k1)
      replace B2 := hide (B2.out.keeps k1)
      replace K := hide (K.out.trans k1)
      clear k1 HQ
      cases XQ
      · go_wp2
        go_ret
        exact ⟨ret_bool (by rw [HM.out]; rfl), K.out⟩
      go_wp2_with fail
      refine (sections_any (M + 1) _).mono ?_
      rintro e w2 ⟨rfl, k2⟩
      replace B1 := hide ((B1.out.keeps k2).alloc (.cells #[.pointer (some ⟨M + 1, 3, none⟩), .pointer (some ⟨M + 1, 4, none⟩), .pointer (some ⟨M + 1, 5, none⟩)] 52))
      replace B2 := hide ((B2.out.keeps k2).alloc (.cells #[.pointer (some ⟨M + 1, 3, none⟩), .pointer (some ⟨M + 1, 4, none⟩), .pointer (some ⟨M + 1, 5, none⟩)] 52))
      have B3 := hide (Blk.made w2 #[.pointer (some ⟨M + 1, 3, none⟩), .pointer (some ⟨M + 1, 4, none⟩), .pointer (some ⟨M + 1, 5, none⟩)] 52)
      replace K := hide ((K.out.trans k2).alloc (.cells #[.pointer (some ⟨M + 1, 3, none⟩), .pointer (some ⟨M + 1, 4, none⟩), .pointer (some ⟨M + 1, 5, none⟩)] 52))
      clear k2
      unfold secV
      go_wp2_with fail
      generalize w2.alloc (.cells #[.pointer (some ⟨M + 1, 3, none⟩), .pointer (some ⟨M + 1, 4, none⟩), .pointer (some ⟨M + 1, 5, none⟩)] 52) = W2 at *
      generalize w2.heap.size = O at *
      refine (sections_any M _).mono ?_
      rintro e w3 ⟨rfl, k3⟩
      replace B1 := hide (B1.out.keeps k3)
      replace B2 := hide (B2.out.keeps k3)
      replace B3 := hide (B3.out.keeps k3)
      replace K := hide (K.out.trans k3)
      clear k3
      unfold secV
      go_wp2_with fail
      go_loopw [30] (fun i wr => ∃ (j : Nat), j ≤ 3 ∧ i = .int .i64 j ∧ Blk wr M #[.int .i64 I, .int .i64 J, vq, va, vn, vr] 26 ∧ Blk wr (M + 1) #[.int .i64 I, .int .i64 J, uq, ua, un, ur] 26 ∧ Blk wr O #[.pointer (some ⟨M + 1, 3, none⟩), .pointer (some ⟨M + 1, 4, none⟩), .pointer (some ⟨M + 1, 5, none⟩)] 52 ∧ Keeps w wr ∧ (1 ≤ j → XA = true) ∧ (2 ≤ j → XN = true) ∧ (3 ≤ j → XR = true)) (fun i _ => 3 - (intOf i).toNat)
      case atStart => exact ⟨0, by omega, rfl, B1.out, B2.out, B3.out, K.out, fun h => by omega, fun h => by omega, fun h => by omega⟩
      case round =>
        clear B1 B2 B3 K
        obtain ⟨j, hj, rfl, B1, B2, B3, K, g0, g1, g2⟩ := hrel
        rcases (show j = 0 ∨ j = 1 ∨ j = 2 ∨ j = 3 by omega) with rfl | rfl | rfl | rfl
        · have ri : ∀ w, (Instr.index 52 (.agg #[.pointer (some ⟨M, 3, none⟩), .pointer (some ⟨M, 4, none⟩), .pointer (some ⟨M, 5, none⟩)]) (.int .i64 0)).run Try.prog w = .ok (.pointer (some ⟨M, 3, none⟩)) w := fun w => by kernel_rfl
          have T : wr.drew.cell? ⟨M, 3, none⟩ = some va ∧ wr.drew.cell? ⟨O, 0, none⟩ = some (.pointer (some ⟨M + 1, 3, none⟩)) ∧ wr.drew.cell? ⟨M + 1, 3, none⟩ = some ua ∧ M < wr.drew.heap.size ∧ O < wr.drew.heap.size ∧ M + 1 < wr.drew.heap.size := ⟨B1.cell 3, B3.cell 0, B2.cell 3, B1.lt, B3.lt, B2.lt⟩
          have K2 := K.drew
          have HB := hide (show ∀ w5, Keeps wr.drew w5 → (Blk w5 M #[.int .i64 I, .int .i64 J, vq, va, vn, vr] 26 ∧ Blk w5 (M + 1) #[.int .i64 I, .int .i64 J, uq, ua, un, ur] 26 ∧ Blk w5 O #[.pointer (some ⟨M + 1, 3, none⟩), .pointer (some ⟨M + 1, 4, none⟩), .pointer (some ⟨M + 1, 5, none⟩)] 52) from fun w5 h => ⟨B1.drew.keeps h, B2.drew.keeps h, B3.drew.keeps h⟩)
          clear B1 B2 B3 g0 g1 g2
          go_wp2_with fail
          go_region_held3 (fun w' => w'.cell? ⟨M, 3, none⟩ = some va ∧ w'.cell? ⟨O, 0, none⟩ = some (.pointer (some ⟨M + 1, 3, none⟩)) ∧ w'.cell? ⟨M + 1, 3, none⟩ = some ua ∧ M < w'.heap.size ∧ O < w'.heap.size ∧ M + 1 < w'.heap.size) (exact T) ((go_at_call 49; refine (HA.out _ K2).mono ?_; rintro e w5 ⟨rfl, k5⟩; replace T := Six8.keeps T k5; obtain ⟨B1, B2, B3⟩ := HB.out _ k5; replace K2 := K2.trans k5))
          clear HB T K ri k5
          replace B1 := hide B1
          replace B2 := hide B2
          replace B3 := hide B3
          replace K2 := hide K2
          cases XA
          · go_wp2
            go_ret
            exact ⟨ret_bool (by rw [HM.out]; simp), K2.out⟩
          · go_wp2
            go_roundw
            case rel => exact ⟨1, by omega, rfl, B1.out, B2.out, B3.out, K2.out, (fun _ => by first | rfl | trivial), fun h => by omega, fun h => by omega⟩
            case measure => simp [intOf]
        · have ri : ∀ w, (Instr.index 52 (.agg #[.pointer (some ⟨M, 3, none⟩), .pointer (some ⟨M, 4, none⟩), .pointer (some ⟨M, 5, none⟩)]) (.int .i64 1)).run Try.prog w = .ok (.pointer (some ⟨M, 4, none⟩)) w := fun w => by kernel_rfl
          have z0 := g0 (by omega)
          subst z0
          have T : wr.drew.cell? ⟨M, 4, none⟩ = some vn ∧ wr.drew.cell? ⟨O, 1, none⟩ = some (.pointer (some ⟨M + 1, 4, none⟩)) ∧ wr.drew.cell? ⟨M + 1, 4, none⟩ = some un ∧ M < wr.drew.heap.size ∧ O < wr.drew.heap.size ∧ M + 1 < wr.drew.heap.size := ⟨B1.cell 4, B3.cell 1, B2.cell 4, B1.lt, B3.lt, B2.lt⟩
          have K2 := K.drew
          have HB := hide (show ∀ w5, Keeps wr.drew w5 → (Blk w5 M #[.int .i64 I, .int .i64 J, vq, va, vn, vr] 26 ∧ Blk w5 (M + 1) #[.int .i64 I, .int .i64 J, uq, ua, un, ur] 26 ∧ Blk w5 O #[.pointer (some ⟨M + 1, 3, none⟩), .pointer (some ⟨M + 1, 4, none⟩), .pointer (some ⟨M + 1, 5, none⟩)] 52) from fun w5 h => ⟨B1.drew.keeps h, B2.drew.keeps h, B3.drew.keeps h⟩)
          clear B1 B2 B3 g0 g1 g2
          go_wp2_with fail
          go_region_held3 (fun w' => w'.cell? ⟨M, 4, none⟩ = some vn ∧ w'.cell? ⟨O, 1, none⟩ = some (.pointer (some ⟨M + 1, 4, none⟩)) ∧ w'.cell? ⟨M + 1, 4, none⟩ = some un ∧ M < w'.heap.size ∧ O < w'.heap.size ∧ M + 1 < w'.heap.size) (exact T) ((go_at_call 49; refine (HN.out _ K2).mono ?_; rintro e w5 ⟨rfl, k5⟩; replace T := Six8.keeps T k5; obtain ⟨B1, B2, B3⟩ := HB.out _ k5; replace K2 := K2.trans k5))
          clear HB T K ri k5
          replace B1 := hide B1
          replace B2 := hide B2
          replace B3 := hide B3
          replace K2 := hide K2
          cases XN
          · go_wp2
            go_ret
            exact ⟨ret_bool (by rw [HM.out]; simp), K2.out⟩
          · go_wp2
            go_roundw
            case rel => exact ⟨2, by omega, rfl, B1.out, B2.out, B3.out, K2.out, (fun _ => by first | rfl | trivial), (fun _ => by first | rfl | trivial), fun h => by omega⟩
            case measure => simp [intOf]
        · have ri : ∀ w, (Instr.index 52 (.agg #[.pointer (some ⟨M, 3, none⟩), .pointer (some ⟨M, 4, none⟩), .pointer (some ⟨M, 5, none⟩)]) (.int .i64 2)).run Try.prog w = .ok (.pointer (some ⟨M, 5, none⟩)) w := fun w => by kernel_rfl
          have z0 := g0 (by omega)
          subst z0
          have z1 := g1 (by omega)
          subst z1
          have T : wr.drew.cell? ⟨M, 5, none⟩ = some vr ∧ wr.drew.cell? ⟨O, 2, none⟩ = some (.pointer (some ⟨M + 1, 5, none⟩)) ∧ wr.drew.cell? ⟨M + 1, 5, none⟩ = some ur ∧ M < wr.drew.heap.size ∧ O < wr.drew.heap.size ∧ M + 1 < wr.drew.heap.size := ⟨B1.cell 5, B3.cell 2, B2.cell 5, B1.lt, B3.lt, B2.lt⟩
          have K2 := K.drew
          have HB := hide (show ∀ w5, Keeps wr.drew w5 → (Blk w5 M #[.int .i64 I, .int .i64 J, vq, va, vn, vr] 26 ∧ Blk w5 (M + 1) #[.int .i64 I, .int .i64 J, uq, ua, un, ur] 26 ∧ Blk w5 O #[.pointer (some ⟨M + 1, 3, none⟩), .pointer (some ⟨M + 1, 4, none⟩), .pointer (some ⟨M + 1, 5, none⟩)] 52) from fun w5 h => ⟨B1.drew.keeps h, B2.drew.keeps h, B3.drew.keeps h⟩)
          clear B1 B2 B3 g0 g1 g2
          go_wp2_with fail
          go_region_held3 (fun w' => w'.cell? ⟨M, 5, none⟩ = some vr ∧ w'.cell? ⟨O, 2, none⟩ = some (.pointer (some ⟨M + 1, 5, none⟩)) ∧ w'.cell? ⟨M + 1, 5, none⟩ = some ur ∧ M < w'.heap.size ∧ O < w'.heap.size ∧ M + 1 < w'.heap.size) (exact T) ((go_at_call 49; refine (HR.out _ K2).mono ?_; rintro e w5 ⟨rfl, k5⟩; replace T := Six8.keeps T k5; obtain ⟨B1, B2, B3⟩ := HB.out _ k5; replace K2 := K2.trans k5))
          clear HB T K ri k5
          replace B1 := hide B1
          replace B2 := hide B2
          replace B3 := hide B3
          replace K2 := hide K2
          cases XR
          · go_wp2
            go_ret
            exact ⟨ret_bool (by rw [HM.out]; simp), K2.out⟩
          · go_wp2
            go_roundw
            case rel => exact ⟨3, by omega, rfl, B1.out, B2.out, B3.out, K2.out, (fun _ => by first | rfl | trivial), (fun _ => by first | rfl | trivial), (fun _ => by first | rfl | trivial)⟩
            case measure => simp [intOf]
        · have z0 := g0 (by omega)
          have z1 := g1 (by omega)
          have z2 := g2 (by omega)
          subst z0 z1 z2
          clear g0 g1 g2 B1 B2 B3
          go_wp2
          go_ret
          exact ⟨ret_bool (by rw [HM.out]; rfl), K⟩
    · rw [decide_eq_false hJ] at HM
      subst hI
      have hne2 : (J != J2) = true := by rw [bne_iff_ne]; exact hJ
      go_enter Try.func20, Try.ntmps20
      go_wp2
      go_ret
      exact ⟨ret_bool (by rw [HM.out]; simp), K.out⟩
  · rw [decide_eq_false hI] at HM
    have hne : (I != I2) = true := by rw [bne_iff_ne]; exact hI
    go_enter Try.func20, Try.ntmps20
    go_wp2
    go_ret
    exact ⟨ret_bool (by rw [HM.out]; rfl), K.out⟩
end Go.Proofs.Ytcohceggooockaa
