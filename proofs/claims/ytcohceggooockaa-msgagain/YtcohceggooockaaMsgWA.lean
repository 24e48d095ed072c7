/- What Encode of layer 8 answers. No condition. -/
import Derived.Test.YtcohceggooockaaMsgW9
namespace Go.Proofs.Ytcohceggooockaa
open Go.RowKit

theorem appR_len (base : ByteArray) : ∀ (l : List Rec) (b : ByteArray), (∀ r ∈ l, r.d.size ≤ 65535) → b.size ≤ 50000000 → (appR base b l).size ≤ 50000000
  | [], b, _, hb => hb
  | r :: l, b, h, hb => by
    by_cases h1 : 65535 < b.size
    · rw [appR_long base b _ h1]; exact hb
    · rw [appR_step base b _ _ h1]
      refine appR_len base l _ (fun x hx => h x (by simp [hx])) ?_
      have := enc_len base r (h r (by simp))
      rw [ByteArray.size_append]
      omega
theorem qs_fine {m : Ms} (h : msOk m = true) : (∀ q ∈ m.qs, q.n.size ≤ 255) ∧ m.qs.length ≤ 65535 ∧ m.an.length ≤ 65535 ∧ m.ns.length ≤ 65535 ∧ m.ar.length ≤ 65535 ∧ (∀ r ∈ m.an, r.n.size ≤ 255 ∧ r.d.size ≤ 65535) ∧ (∀ r ∈ m.ns, r.n.size ≤ 255 ∧ r.d.size ≤ 65535) ∧ (∀ r ∈ m.ar, r.n.size ≤ 255 ∧ r.d.size ≤ 65535) := by
  simp only [msOk, Bool.and_eq_true, List.all_eq_true, num2, decide_eq_true_eq] at h
  obtain ⟨⟨⟨⟨⟨_, _⟩, q1, q2⟩, a1, a2⟩, n1, n2⟩, r1, r2⟩ := h
  have hR : ∀ r, recOk r = true → r.n.size ≤ 255 ∧ r.d.size ≤ 65535 := by
    intro r hr
    have hs := (recOk_spec r).1 hr
    have := ((Nm.okL_spec _).1 hs.1).1
    rw [bl_length] at this
    exact ⟨this, check_len hs.2.2.2.2⟩
  refine ⟨?_, by omega, by omega, by omega, by omega, fun r hr => hR r (a2 r hr), fun r hr => hR r (n2 r hr), fun r hr => hR r (r2 r hr)⟩
  intro q hq
  have := q2 q hq
  simp only [qnOk, Bool.and_eq_true] at this
  have := ((Nm.okL_spec _).1 this.1.1).1
  rwa [bl_length] at this
def rest4 (a n r : List Rec) (j : Nat) : List Rec := if j = 0 then a ++ n ++ r else if j = 1 then n ++ r else if j = 2 then r else []
theorem ReadRow.inB {w : World} {v : Value} {c : Nat} {α : Type} {l : List α} {f : α → List Value} (h : ReadRow w v c (l.map f)) : 0 < l.length → ∀ b, v.ownBlock = some b → b < w.heap.size := by
  intro hl b hb
  obtain ⟨a, cap, rfl⟩ := h.len
  obtain ⟨b', off, rfl, hlt, _⟩ := h.parts (by rw [List.length_map]; omega)
  simp only [Value.ownBlock, Option.some.injEq] at hb
  omega

/-- The six cells of a message that was boxed. -/
def Six6 (M : Nat) (a b c d e f : Value) (w : World) : Prop :=
  w.cell? ⟨M, 0, none⟩ = some a ∧ w.cell? ⟨M, 1, none⟩ = some b ∧ w.cell? ⟨M, 2, none⟩ = some c ∧ w.cell? ⟨M, 3, none⟩ = some d ∧ w.cell? ⟨M, 4, none⟩ = some e ∧ w.cell? ⟨M, 5, none⟩ = some f ∧ M < w.heap.size
theorem Blk.six6 {w : World} {M : Nat} {a b c d e f : Value} {ty : TypeId} (h : Blk w M #[a, b, c, d, e, f] ty) : Six6 M a b c d e f w := ⟨h.cell 0, h.cell 1, h.cell 2, h.cell 3, h.cell 4, h.cell 5, h.lt⟩

set_option maxHeartbeats 8000000 in
set_option maxRecDepth 100000 in
theorem Encode_any (v : Value) (m : Ms) (w : World) (h : MsAt w v m) (hf : MsFine m) :
    Calls Try.prog 16 #[v] w fun e w' => e = .returned (.tuple #[.string (encM m).1, .int .i64 (encM m).2]) ∧ Keeps w w' := by
  have hM := h
  obtain ⟨vq, va, vn, vr, rfl, rq, ra, rn, rr⟩ := h
  have HC := hide (fun W (k : Keeps w W) => Check_any _ m W (hM.keeps k) hf)
  have B1 := Blk.made w #[.int .i64 m.id, .int .i64 m.bits, vq, va, vn, vr] 26
  have K := (Keeps.refl w).alloc (.cells #[.int .i64 m.id, .int .i64 m.bits, vq, va, vn, vr] 26)
  replace B1 := hide B1
  replace K := hide K
  cases ho : msOk m
  · have HE : Hid (encM m = (⟨#[]⟩, 1)) := by simp [Hid, encM, ho]
    rw [ho] at HC
    generalize encM m = E at *
    go_enter Try.func16, Try.ntmps16
    go_wp2_with fail
    refine (HC.out _ K.out).mono ?_
    rintro e w1 ⟨rfl, k1⟩
    go_wp2
    go_ret2
    exact ⟨by rw [HE.out]; rfl, K.out.trans k1⟩
  · obtain ⟨f1, f2, f3, f4, f5, g1, g2, g3⟩ := qs_fine ho
    have hf1 : ∀ l : List Rec, (∀ r ∈ l, r.n.size ≤ 255 ∧ r.d.size ≤ 65535) → ∀ r ∈ l, r.n.size ≤ maxLen ∧ r.d.size ≤ 65535 := fun l h r hr => ⟨by have := (h r hr).1; unfold maxLen; omega, (h r hr).2⟩
    have HE : Hid (encM m = if 65535 < (encT m).size then (⟨#[]⟩, 6) else (encT m, 0)) := by simp [Hid, encM, ho]
    rw [ho] at HC
    obtain ⟨aq, kq, hq⟩ := rq.len
    rw [List.length_map] at hq
    subst hq
    go_enter Try.func16, Try.ntmps16
    go_wp2_with fail
    generalize w.alloc (.cells #[.int .i64 m.id, .int .i64 m.bits, .slice aq m.qs.length kq, va, vn, vr] 26) = W at *
    generalize w.heap.size = M at *
    refine (HC.out _ K.out).mono ?_
    rintro e w1 ⟨rfl, k1⟩
    have B2 := B1.out.keeps k1
    have K2 := K.out.trans k1
    clear B1 K k1 HC
    have hM1 := hM.keeps K2
    replace rq := rq.keeps K2
    replace ra := ra.keeps K2
    replace rn := rn.keeps K2
    replace rr := rr.keeps K2
    have HB : Hid (∀ w', Keeps w1.drew w' → Six6 M (.int .i64 m.id) (.int .i64 m.bits) (.slice aq m.qs.length kq) va vn vr w') := fun w' hk => (B2.drew.keeps hk).six6
    have T := HB.out _ (Keeps.refl _)
    have HH := hide (fun W (k : Keeps w1.drew W) => appHead_any w1.heap.size (.slice none 0 0) [] _ m W (MsAt.keeps (w := w1.drew) hM1 k) (Owns.nil _ _) k.size (by simp))
    have HQ := hide (fun W (k : Keeps w1.drew W) u l (hown : Owns W w1.heap.size u l) (hl : l.length ≤ 1000000) => appQs_any w1.heap.size u l _ m.qs W (ReadRow.keeps (w := w1.drew) rq k) rq.inB hown k.size hl f1 f2)
    have HLh := hide (show ([] ++ bl (headS m)).length ≤ 1000000 by rw [head_pre]; have := hpre_len (nums6 m.id m.bits m.qs.length m.an.length m.ns.length m.ar.length) 6; simp; omega)
    have KK : Keeps w1.drew w1.drew := Keeps.refl _
    have K3 := hide K2
    clear K2
    replace B2 := hide B2
    go_wp2_with fail
    go_region_held3 (fun w' => w'.cell? ⟨M, 0, none⟩ = some (.int .i64 m.id) ∧ w'.cell? ⟨M, 1, none⟩ = some (.int .i64 m.bits) ∧ w'.cell? ⟨M, 2, none⟩ = some (.slice aq m.qs.length kq) ∧ w'.cell? ⟨M, 3, none⟩ = some va ∧ w'.cell? ⟨M, 4, none⟩ = some vn ∧ w'.cell? ⟨M, 5, none⟩ = some vr ∧ M < w'.heap.size) (exact T) ((first | (go_at_call 35; refine (HH.out _ KK).mono ?_; rintro e w5 ⟨v5, rfl, O5, b5, o5⟩; replace KK : Keeps w1.drew w5 := Below.trans KK b5; replace T := HB.out _ KK; clear b5 o5) | (go_at_call 34; refine (HQ.out _ KK _ _ O5 HLh.out).mono ?_; rintro e w6 ⟨v6, rfl, O6, b6, o6⟩; replace KK : Keeps w1.drew w6 := Below.trans KK b6; replace T := HB.out _ KK; clear b6 o6 O5)))
    clear HH HQ
    have HC0 := hide (show bl (appQ (headS m) m.qs) = [] ++ bl (headS m) ++ qpre m.qs m.qs.length by rw [appQ_pre]; rfl)
    have hc0 : (appQ (headS m) m.qs).size ≤ 50000000 := by
      rw [← bl_length, HC0.out]
      have h1 := HLh.out
      have h2 := qpre_len f1 _ (Nat.le_refl _)
      simp only [List.length_append, List.length_nil] at h1 ⊢
      omega
    have HT : Hid (encT m = appR (baseS m) (appQ (headS m) m.qs) (rest4 m.an m.ns m.ar 0)) := rfl
    have hbs : (baseS m).size ≤ maxLen := by
      unfold baseS
      split
      · unfold maxLen; decide
      · rename_i q l e
        have := f1 q (by rw [e]; simp)
        unfold maxLen; omega
    have HB0 : Hid (m.qs.length = 0 → baseS m = ⟨#[0]⟩) := by
      intro h
      have : m.qs = [] := List.length_eq_zero_iff.1 h
      simp [baseS, this]
    have HB1 : Hid (∀ h : 0 < m.qs.length, baseS m = (m.qs[0]'h).n) := by
      intro h
      unfold baseS
      split
      · rename_i e; rw [e] at h; simp at h
      · rename_i q l e; simp [e]
    generalize baseS m = base at *
    generalize appQ (headS m) m.qs = cur0 at *
    obtain ⟨x0, x1, x2, x3, x4, x5, hx⟩ := T
    by_cases hq0 : m.qs.length = 0
    · have hbe := HB0.out hq0
      subst hbe
      have hz : ¬ (0 : Int) < (m.qs.length : Int) := by omega
      go_wp2_with fail
      clear x0 x1 x2 x3 x4 x5 hx
      refine (sections_any M _).mono ?_
      rintro e w7 ⟨rfl, k7⟩
      have O7 := hide (O6.below k7)
      replace KK := hide (KK.trans k7)
      clear k7 O6
      unfold secV
      go_wp2_with fail
      go_loopw [4, 26] (fun b i wr => ∃ (j : Nat) (cur : ByteArray), j ≤ 3 ∧ i = .int .i64 j ∧ Owns wr w1.heap.size b (bl cur) ∧ Keeps w1.drew wr ∧ cur.size ≤ 50000000 ∧ Hid (encT m = appR (⟨#[0]⟩ : ByteArray) cur (rest4 m.an m.ns m.ar j))) (fun _ i _ => 3 - (intOf i).toNat)
      case atStart => exact ⟨0, cur0, by omega, rfl, by rw [HC0.out]; exact O7.out, KK.out, hc0, HT⟩
      case round =>
        clear O7 KK
        obtain ⟨j, cur, hj, rfl, hown, KK, hcur, HA⟩ := hrel
        rcases (show j = 0 ∨ j = 1 ∨ j = 2 ∨ j = 3 by omega) with rfl | rfl | rfl | rfl
        · have ri : ∀ w, (Instr.index 52 (.agg #[.pointer (some ⟨M, 3, none⟩), .pointer (some ⟨M, 4, none⟩), .pointer (some ⟨M, 5, none⟩)]) (.int .i64 0)).run Try.prog w = .ok (.pointer (some ⟨M, 3, none⟩)) w := fun w => by kernel_rfl
          obtain ⟨x0, x1, x2, x3, x4, x5, hx⟩ := HB.out _ KK
          have HS := hide ((HA.out.trans (show appR (⟨#[0]⟩ : ByteArray) cur (rest4 m.an m.ns m.ar 0) = appR (⟨#[0]⟩ : ByteArray) cur (m.an ++ (m.ns ++ m.ar)) by rw [rest4, if_pos rfl, List.append_assoc])).trans (appR_append (⟨#[0]⟩ : ByteArray) m.an (m.ns ++ m.ar) cur))
          have hlen := appR_len (⟨#[0]⟩ : ByteArray) m.an cur (fun r hr => (g1 r hr).2) hcur
          have HR := hide (appRs_any w1.heap.size _ cur (⟨#[0]⟩ : ByteArray) va m.an wr (ReadRow.keeps (w := w1.drew) ra KK) ra.inB hown KK.size hcur hbs (hf1 _ g1) f3)
          clear HA hown
          go_wp2_with fail
          refine (HR.out).mono ?_
          rintro e w8 ⟨v8, rfl, O8, b8, o8⟩
          replace KK : Keeps w1.drew w8 := Below.trans KK b8
          clear b8 o8 x0 x1 x2 x3 x4 x5 hx ri HR
          replace KK := hide KK
          replace O8 := hide O8
          go_wp2
          go_roundw
          case rel => exact ⟨1, appR (⟨#[0]⟩ : ByteArray) cur m.an, by omega, rfl, O8.out, KK.out, hlen, HS.out⟩
          case measure => simp [intOf]
        · have ri : ∀ w, (Instr.index 52 (.agg #[.pointer (some ⟨M, 3, none⟩), .pointer (some ⟨M, 4, none⟩), .pointer (some ⟨M, 5, none⟩)]) (.int .i64 1)).run Try.prog w = .ok (.pointer (some ⟨M, 4, none⟩)) w := fun w => by kernel_rfl
          obtain ⟨x0, x1, x2, x3, x4, x5, hx⟩ := HB.out _ KK
          have HS := hide ((HA.out.trans (show appR (⟨#[0]⟩ : ByteArray) cur (rest4 m.an m.ns m.ar 1) = appR (⟨#[0]⟩ : ByteArray) cur (m.ns ++ m.ar) from rfl)).trans (appR_append (⟨#[0]⟩ : ByteArray) m.ns m.ar cur))
          have hlen := appR_len (⟨#[0]⟩ : ByteArray) m.ns cur (fun r hr => (g2 r hr).2) hcur
          have HR := hide (appRs_any w1.heap.size _ cur (⟨#[0]⟩ : ByteArray) vn m.ns wr (ReadRow.keeps (w := w1.drew) rn KK) rn.inB hown KK.size hcur hbs (hf1 _ g2) f4)
          clear HA hown
          go_wp2_with fail
          refine (HR.out).mono ?_
          rintro e w8 ⟨v8, rfl, O8, b8, o8⟩
          replace KK : Keeps w1.drew w8 := Below.trans KK b8
          clear b8 o8 x0 x1 x2 x3 x4 x5 hx ri HR
          replace KK := hide KK
          replace O8 := hide O8
          go_wp2
          go_roundw
          case rel => exact ⟨2, appR (⟨#[0]⟩ : ByteArray) cur m.ns, by omega, rfl, O8.out, KK.out, hlen, HS.out⟩
          case measure => simp [intOf]
        · have ri : ∀ w, (Instr.index 52 (.agg #[.pointer (some ⟨M, 3, none⟩), .pointer (some ⟨M, 4, none⟩), .pointer (some ⟨M, 5, none⟩)]) (.int .i64 2)).run Try.prog w = .ok (.pointer (some ⟨M, 5, none⟩)) w := fun w => by kernel_rfl
          obtain ⟨x0, x1, x2, x3, x4, x5, hx⟩ := HB.out _ KK
          have HS := hide ((HA.out.trans (show appR (⟨#[0]⟩ : ByteArray) cur (rest4 m.an m.ns m.ar 2) = appR (⟨#[0]⟩ : ByteArray) cur (m.ar ++ []) by rw [List.append_nil]; rfl)).trans (appR_append (⟨#[0]⟩ : ByteArray) m.ar [] cur))
          have hlen := appR_len (⟨#[0]⟩ : ByteArray) m.ar cur (fun r hr => (g3 r hr).2) hcur
          have HR := hide (appRs_any w1.heap.size _ cur (⟨#[0]⟩ : ByteArray) vr m.ar wr (ReadRow.keeps (w := w1.drew) rr KK) rr.inB hown KK.size hcur hbs (hf1 _ g3) f5)
          clear HA hown
          go_wp2_with fail
          refine (HR.out).mono ?_
          rintro e w8 ⟨v8, rfl, O8, b8, o8⟩
          replace KK : Keeps w1.drew w8 := Below.trans KK b8
          clear b8 o8 x0 x1 x2 x3 x4 x5 hx ri HR
          replace KK := hide KK
          replace O8 := hide O8
          go_wp2
          go_roundw
          case rel => exact ⟨3, appR (⟨#[0]⟩ : ByteArray) cur m.ar, by omega, rfl, O8.out, KK.out, hlen, HS.out⟩
          case measure => simp [intOf]
        · have HF : Hid (encT m = cur) := HA.out
          have Kf := hide (K3.out.drew.trans KK)
          have hlo : ∀ ty, (Builtin.len_ #[40] ty #[u4]).run Try.prog wr = .ok (goInt (bl cur).length) wr := fun ty => hown.len ty
          have hcv := hown.conv
          rw [show (⟨(bl cur).toArray⟩ : ByteArray) = cur by simp [bl]] at hcv
          rw [bl_length] at hlo
          clear HA HB KK hown
          by_cases hlong : (65535 : Int) < (cur.size : Int)
          · have HX : Hid (encM m = (⟨#[]⟩, 6)) := by unfold Hid; rw [HE.out, HF.out, if_pos (by omega)]
            clear HE
            go_wp2
            go_ret2
            exact ⟨by rw [HX.out]; rfl, Kf.out⟩
          · have HX : Hid (encM m = (cur, 0)) := by unfold Hid; rw [HE.out, HF.out, if_neg (by omega)]
            clear HE
            go_wp2
            go_ret2
            exact ⟨by rw [HX.out]; rfl, Kf.out⟩
    · have hp : 0 < m.qs.length := by omega
      have hz : (0 : Int) < (m.qs.length : Int) := by omega
      have rq6 := ReadRow.keeps (w := w1.drew) rq KK
      obtain ⟨bq, oq, rfl, _, _⟩ := rq6.parts (by rw [List.length_map]; omega)
      obtain ⟨y0, _, _⟩ := row3 rq6 hp
      rw [Nat.zero_mul, Nat.add_zero] at y0
      have hbe := HB1.out hp
      rw [← hbe] at y0
      clear rq6 hbe HB1 HB0
      go_wp2_with fail
      clear x0 x1 x2 x3 x4 x5 hx y0
      refine (sections_any M _).mono ?_
      rintro e w7 ⟨rfl, k7⟩
      have O7 := hide (O6.below k7)
      replace KK := hide (KK.trans k7)
      clear k7 O6
      unfold secV
      go_wp2_with fail
      go_loopw [4, 26] (fun b i wr => ∃ (j : Nat) (cur : ByteArray), j ≤ 3 ∧ i = .int .i64 j ∧ Owns wr w1.heap.size b (bl cur) ∧ Keeps w1.drew wr ∧ cur.size ≤ 50000000 ∧ Hid (encT m = appR base cur (rest4 m.an m.ns m.ar j))) (fun _ i _ => 3 - (intOf i).toNat)
      case atStart => exact ⟨0, cur0, by omega, rfl, by rw [HC0.out]; exact O7.out, KK.out, hc0, HT⟩
      case round =>
        clear O7 KK
        obtain ⟨j, cur, hj, rfl, hown, KK, hcur, HA⟩ := hrel
        rcases (show j = 0 ∨ j = 1 ∨ j = 2 ∨ j = 3 by omega) with rfl | rfl | rfl | rfl
        · have ri : ∀ w, (Instr.index 52 (.agg #[.pointer (some ⟨M, 3, none⟩), .pointer (some ⟨M, 4, none⟩), .pointer (some ⟨M, 5, none⟩)]) (.int .i64 0)).run Try.prog w = .ok (.pointer (some ⟨M, 3, none⟩)) w := fun w => by kernel_rfl
          obtain ⟨x0, x1, x2, x3, x4, x5, hx⟩ := HB.out _ KK
          have HS := hide ((HA.out.trans (show appR base cur (rest4 m.an m.ns m.ar 0) = appR base cur (m.an ++ (m.ns ++ m.ar)) by rw [rest4, if_pos rfl, List.append_assoc])).trans (appR_append base m.an (m.ns ++ m.ar) cur))
          have hlen := appR_len base m.an cur (fun r hr => (g1 r hr).2) hcur
          have HR := hide (appRs_any w1.heap.size _ cur base va m.an wr (ReadRow.keeps (w := w1.drew) ra KK) ra.inB hown KK.size hcur hbs (hf1 _ g1) f3)
          clear HA hown
          go_wp2_with fail
          refine (HR.out).mono ?_
          rintro e w8 ⟨v8, rfl, O8, b8, o8⟩
          replace KK : Keeps w1.drew w8 := Below.trans KK b8
          clear b8 o8 x0 x1 x2 x3 x4 x5 hx ri HR
          replace KK := hide KK
          replace O8 := hide O8
          go_wp2
          go_roundw
          case rel => exact ⟨1, appR base cur m.an, by omega, rfl, O8.out, KK.out, hlen, HS.out⟩
          case measure => simp [intOf]
        · have ri : ∀ w, (Instr.index 52 (.agg #[.pointer (some ⟨M, 3, none⟩), .pointer (some ⟨M, 4, none⟩), .pointer (some ⟨M, 5, none⟩)]) (.int .i64 1)).run Try.prog w = .ok (.pointer (some ⟨M, 4, none⟩)) w := fun w => by kernel_rfl
          obtain ⟨x0, x1, x2, x3, x4, x5, hx⟩ := HB.out _ KK
          have HS := hide ((HA.out.trans (show appR base cur (rest4 m.an m.ns m.ar 1) = appR base cur (m.ns ++ m.ar) from rfl)).trans (appR_append base m.ns m.ar cur))
          have hlen := appR_len base m.ns cur (fun r hr => (g2 r hr).2) hcur
          have HR := hide (appRs_any w1.heap.size _ cur base vn m.ns wr (ReadRow.keeps (w := w1.drew) rn KK) rn.inB hown KK.size hcur hbs (hf1 _ g2) f4)
          clear HA hown
          go_wp2_with fail
          refine (HR.out).mono ?_
          rintro e w8 ⟨v8, rfl, O8, b8, o8⟩
          replace KK : Keeps w1.drew w8 := Below.trans KK b8
          clear b8 o8 x0 x1 x2 x3 x4 x5 hx ri HR
          replace KK := hide KK
          replace O8 := hide O8
          go_wp2
          go_roundw
          case rel => exact ⟨2, appR base cur m.ns, by omega, rfl, O8.out, KK.out, hlen, HS.out⟩
          case measure => simp [intOf]
        · have ri : ∀ w, (Instr.index 52 (.agg #[.pointer (some ⟨M, 3, none⟩), .pointer (some ⟨M, 4, none⟩), .pointer (some ⟨M, 5, none⟩)]) (.int .i64 2)).run Try.prog w = .ok (.pointer (some ⟨M, 5, none⟩)) w := fun w => by kernel_rfl
          obtain ⟨x0, x1, x2, x3, x4, x5, hx⟩ := HB.out _ KK
          have HS := hide ((HA.out.trans (show appR base cur (rest4 m.an m.ns m.ar 2) = appR base cur (m.ar ++ []) by rw [List.append_nil]; rfl)).trans (appR_append base m.ar [] cur))
          have hlen := appR_len base m.ar cur (fun r hr => (g3 r hr).2) hcur
          have HR := hide (appRs_any w1.heap.size _ cur base vr m.ar wr (ReadRow.keeps (w := w1.drew) rr KK) rr.inB hown KK.size hcur hbs (hf1 _ g3) f5)
          clear HA hown
          go_wp2_with fail
          refine (HR.out).mono ?_
          rintro e w8 ⟨v8, rfl, O8, b8, o8⟩
          replace KK : Keeps w1.drew w8 := Below.trans KK b8
          clear b8 o8 x0 x1 x2 x3 x4 x5 hx ri HR
          replace KK := hide KK
          replace O8 := hide O8
          go_wp2
          go_roundw
          case rel => exact ⟨3, appR base cur m.ar, by omega, rfl, O8.out, KK.out, hlen, HS.out⟩
          case measure => simp [intOf]
        · have HF : Hid (encT m = cur) := HA.out
          have Kf := hide (K3.out.drew.trans KK)
          have hlo : ∀ ty, (Builtin.len_ #[40] ty #[u4]).run Try.prog wr = .ok (goInt (bl cur).length) wr := fun ty => hown.len ty
          have hcv := hown.conv
          rw [show (⟨(bl cur).toArray⟩ : ByteArray) = cur by simp [bl]] at hcv
          rw [bl_length] at hlo
          clear HA HB KK hown
          by_cases hlong : (65535 : Int) < (cur.size : Int)
          · have HX : Hid (encM m = (⟨#[]⟩, 6)) := by unfold Hid; rw [HE.out, HF.out, if_pos (by omega)]
            clear HE
            go_wp2
            go_ret2
            exact ⟨by rw [HX.out]; rfl, Kf.out⟩
          · have HX : Hid (encM m = (cur, 0)) := by unfold Hid; rw [HE.out, HF.out, if_neg (by omega)]
            clear HE
            go_wp2
            go_ret2
            exact ⟨by rw [HX.out]; rfl, Kf.out⟩
end Go.Proofs.Ytcohceggooockaa
