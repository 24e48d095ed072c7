/- What is encoded is decoded with the letters of the longest end that base has, too. No condition. -/
import Derived.Test.YtcohceggooockaaMsgM
namespace Go.Proofs.Ytcohceggooockaa.Cm
open _root_.Go.Proofs.Ytcohceggooockaa.Nm

/-- n, whose longest end that base has, too, is as it is there. -/
def endL (base n : List UInt8) : List UInt8 := match (ends base).find? (fun e => inB n e) with
  | some e => n.take (n.length - e.length) ++ e
  | none => n

theorem read_end (base n : List UInt8) (a : Nat) (hb : okL base = true) (hn : okL n = true) (ha : a ≤ 16000) :
    ∀ (l : List UInt8) (p : Nat) (y : List UInt8), (base = [0] ∨ ((∃ x, l.drop a = base ++ x) ∧ a + base.length ≤ p)) → l.drop p = wrL base a n ++ y → readL l p = ⟨endL base n, p + (wrL base a n).length, 0⟩ := by
  have h255 := ((Nm.okL_spec base).1 hb).1
  have n255 := ((Nm.okL_spec n).1 hn).1
  cases h2 : (ends base).find? (fun e => inB n e) with
  | none =>
    intro l p y _ hy
    have hw : wrL base a n = n := by rw [wrL, h2]
    have hE : endL base n = n := by rw [endL, h2]
    rw [hE]
    rw [hw] at hy ⊢
    exact read_whole l n y p hn hy
  | some e =>
    obtain ⟨q1, q2, _⟩ := find_max (ends_less base hb).1 h2
    have he := q1
    rw [in_ends e (ends_parts base hb e q1).2.1 n hn, List.any_eq_true] at q2
    obtain ⟨r, hr, hs⟩ := q2
    rw [sameB_comm] at hs
    obtain ⟨p1, p2, ls, hls, hnl⟩ := ends_parts n hn r hr
    have hroot : base ≠ [0] := by
      intro h
      rw [h, ends_root] at q1
      simp at q1
    obtain ⟨e1, e2, bs, e3, e4⟩ := ends_parts base hb e he
    obtain ⟨s1, s2, s3⟩ := (sameB_spec e r).1 hs
    have hlen := same_length hs
    have hel := (ends_less base hb).2 e he
    have he3 := (Nm.up1_ok e1 e2).2.1
    have hup := Nm.ok_pos (Nm.up1_ok e1 e2).1
    have hnl2 : n.length = (ls.flatMap lab).length + r.length := by rw [hnl, List.length_append]
    have htake : n.take (n.length - e.length) = ls.flatMap lab := by
      rw [hnl2, hlen, Nat.add_sub_cancel, hnl, List.take_append_of_le_length (Nat.le_refl _), List.take_length]
    have hE : endL base n = ls.flatMap lab ++ e := by rw [endL, h2]; show n.take (n.length - e.length) ++ e = _; rw [htake]
    have hw : wrL base a n = ls.flatMap lab ++ Oct.beL (49152 + a + base.length - e.length) 2 := by rw [wrL, h2]; show cutTo base a n e.length = _; rw [cutTo, htake]
    have hwl : (wrL base a n).length = (ls.flatMap lab).length + 2 := by rw [hw, beL2, List.length_append]; rfl
    rw [hE]
    intro l p y hcase hy
    obtain ⟨⟨x, hx⟩, hp⟩ := hcase.resolve_left hroot
    have hread : readL l p = rdm l p p 0 [] := by rw [readL, if_pos (by omega), Int.toNat_natCast]
    generalize hm : a + base.length - e.length = m at *
    have hm2 : 49152 + a + base.length - e.length = 49152 + m := by omega
    rw [hm2, beL2] at hw
    have hmb : m < 16384 := by omega
    rw [hw] at hy
    have hy2 : l.drop p = ls.flatMap lab ++ (UInt8.ofNat ((49152 + m) / 256 % 256) :: UInt8.ofNat ((49152 + m) % 256) :: y) := by rw [hy]; simp
    have st1 : rdm l p p 0 [] = rdm l (p + (ls.flatMap lab).length) p 0 (ls.flatMap lab) := by
      have := rdm_labels l p 0 ls p [] hls ⟨_, hy2⟩ (by rw [List.nil_append]; omega)
      rw [List.nil_append] at this
      exact this
    have dr : l.drop (p + (ls.flatMap lab).length) = UInt8.ofNat ((49152 + m) / 256 % 256) :: UInt8.ofNat ((49152 + m) % 256) :: y := by
      rw [← List.drop_drop, hy2, List.drop_append_of_le_length (Nat.le_refl _), List.drop_length, List.nil_append]
    have c1 : l[p + (ls.flatMap lab).length]? = some (UInt8.ofNat ((49152 + m) / 256 % 256)) := by
      have := List.getElem?_drop (xs := l) (i := p + (ls.flatMap lab).length) (j := 0)
      rw [Nat.add_zero] at this
      rw [← this, dr]; rfl
    have c2 : l[p + (ls.flatMap lab).length + 1]? = some (UInt8.ofNat ((49152 + m) % 256)) := by
      rw [← List.getElem?_drop, dr]; rfl
    have n1 : (UInt8.ofNat ((49152 + m) / 256 % 256)).toNat = 192 + m / 256 := by simp; omega
    have n2 : (UInt8.ofNat ((49152 + m) % 256)).toNat = m % 256 := by simp; omega
    have n3 : ((UInt8.ofNat ((49152 + m) / 256 % 256)).toNat - 192) * 256 + (UInt8.ofNat ((49152 + m) % 256)).toNat = m := by rw [n1, n2]; omega
    have st2 := rdm_ptr (q := p) (nx := 0) (out := ls.flatMap lab) c1 (by omega) c2 (by rw [n3]; omega)
    rw [n3, if_pos rfl] at st2
    have hdm : l.drop m = e ++ x := by
      have e5 : m = a + (bs.flatMap lab).length := by
        have := congrArg List.length e4
        rw [List.length_append] at this
        omega
      rw [e5, ← List.drop_drop, hx, e4, List.append_assoc, List.drop_append_of_le_length (Nat.le_refl _), List.drop_length, List.nil_append]
    have st3 := rdm_name l m (p + (ls.flatMap lab).length + 2) m (ls.flatMap lab) e x e1 hdm (by rw [List.length_append]; omega)
    rw [if_neg (by omega)] at st3
    rw [hread, st1, st2, st3, hwl, Nat.add_assoc]
end Go.Proofs.Ytcohceggooockaa.Cm

namespace Go.Proofs.Ytcohceggooockaa
open Go.RowKit

theorem decB_name (m n : ByteArray) (p : Nat) (h : (decB m n p).e = 0) : (decB m n p).r.n = n := by
  by_cases h1 : p + 10 ≤ m.size
  · simp only [decB, if_pos h1] at h ⊢
    by_cases h2 : (Dt.expL (bl m) (p + 10 : Nat) (Oct.getN m (p + 8 : Nat) 2) (Oct.getN m p 2)).e = 0
    · rw [if_pos h2]
    · rw [if_neg h2] at h
      exact absurd h h2
  · simp only [decB, if_neg h1, badD] at h
    omega
/-- The name of what is decoded of what was encoded. -/
theorem relR_name {base : ByteArray} {r : Rec} (h : encOk base 12 r = true) : (relR base r).n = ⟨(Cm.endL (bl base) (bl r.n)).toArray⟩ := by
  have hs : recOk r = true ∧ Cm.wrOk (bl base) 12 (bl r.n) = true := by simpa [encOk] using h
  have hw := (wrOk_spec _ _ _).1 hs.2
  have hb12 : (List.replicate 12 (0 : UInt8)).length = 12 := by simp
  have hm : bl ⟨(List.replicate 12 (0 : UInt8) ++ (bl base ++ bl (encS base 12 r))).toArray⟩ = List.replicate 12 (0 : UInt8) ++ (bl base ++ bl (encS base 12 r)) := bl_mk _
  generalize (⟨(List.replicate 12 (0 : UInt8) ++ (bl base ++ bl (encS base 12 r))).toArray⟩ : ByteArray) = m at *
  have d12 : (bl m).drop 12 = bl base ++ bl (encS base 12 r) := by
    rw [hm, List.drop_append_of_le_length (by omega), List.drop_of_length_le (by omega), List.nil_append]
  have dp : (bl m).drop (12 + base.size) = bl (encS base 12 r) ++ [] := by
    rw [← List.drop_drop, d12, ← bl_length, List.drop_append_of_le_length (Nat.le_refl _), List.drop_length, List.nil_append, List.append_nil]
  have hd := relR_dec h m (12 + base.size) [] (.inr ⟨⟨_, d12⟩, Nat.le_refl _⟩) dp
  have henc : bl (encS base 12 r) = Cm.wrL (bl base) 12 (bl r.n) ++ bl (recB r) := by
    rw [encS, if_pos h, bl_append, wrS, if_pos hs.2, bl_mk]
    rfl
  rw [List.append_nil, henc] at dp
  have hk := Cm.read_end (bl base) (bl r.n) 12 hw.1.1 hw.1.2 (by decide) (bl m) (12 + base.size) _ (.inr ⟨⟨_, d12⟩, by rw [bl_length]; exact Nat.le_refl _⟩) dp
  rw [decR1] at hd
  have h1 := congrArg D1.x hd
  have h2 := congrArg D1.e hd
  simp only at h1 h2
  rw [← h1]
  have hk' : Cm.readL (bl m) ((12 + base.size : Nat) : Int) = _ := hk
  unfold decR at h2 ⊢
  rw [hk'] at h2 ⊢
  simp only [if_true] at h2 ⊢
  rw [decB_name _ _ _ h2]
  rfl
end Go.Proofs.Ytcohceggooockaa

namespace Go.Proofs.Ytcohceggooockaa.Cm
open _root_.Go.Proofs.Ytcohceggooockaa.Nm

/-- n, whose longest end that is the same as one of base's is as it is there: by looking for it. -/
def endW (base n : List UInt8) : List UInt8 := match (ends n).find? (fun r => (ends base).any (fun e => sameB r e)) with
  | some r => match (ends base).find? (fun e => sameB r e) with
    | some e => n.take (n.length - r.length) ++ e
    | none => n
  | none => n
theorem by_length {L : List (List UInt8)} (hL : L.Pairwise (fun a b => b.length < a.length)) {x y : List UInt8} (hx : x ∈ L) (hy : y ∈ L) (h : x.length = y.length) : x = y := by
  induction L with
  | nil => simp at hx
  | cons a L ih =>
    rw [List.pairwise_cons] at hL
    rcases List.mem_cons.1 hx with rfl | hx'
    · rcases List.mem_cons.1 hy with rfl | hy'
      · rfl
      · have := hL.1 y hy'
        omega
    · rcases List.mem_cons.1 hy with rfl | hy'
      · have := hL.1 x hx'
        omega
      · exact ih hL.2 hx' hy'
theorem endW_eq (base n : List UInt8) (hb : okL base = true) (hn : okL n = true) : endW base n = endL base n := by
  have hin : ∀ e ∈ ends base, inB n e = (ends n).any (fun r => sameB r e) := fun e he => in_ends e (ends_parts base hb e he).2.1 n hn
  unfold endW endL
  cases hW : (ends n).find? (fun r => (ends base).any (fun e => sameB r e)) with
  | none =>
    have h1 := List.find?_eq_none.1 hW
    have h2 : (ends base).find? (fun e => inB n e) = none := by
      rw [List.find?_eq_none]
      intro e he hc
      rw [hin e he, List.any_eq_true] at hc
      obtain ⟨r, hr, hs⟩ := hc
      exact h1 r hr (List.any_eq_true.2 ⟨e, he, hs⟩)
    rw [h2]
  | some r =>
    obtain ⟨r1, r2, r3⟩ := find_max (ends_less n hn).1 hW
    rw [List.any_eq_true] at r2
    obtain ⟨e0, he0, hs0⟩ := r2
    obtain ⟨e', hF⟩ : ∃ e', (ends base).find? (fun e => sameB r e) = some e' := by
      rw [← Option.isSome_iff_exists, List.find?_isSome]
      exact ⟨e0, he0, hs0⟩
    have f1 := List.mem_of_find?_eq_some hF
    have f2 : sameB r e' = true := by simpa using List.find?_some hF
    have hine' : inB n e' = true := by
      rw [hin e' f1, List.any_eq_true]
      exact ⟨r, r1, f2⟩
    obtain ⟨e, hE⟩ : ∃ e, (ends base).find? (fun e => inB n e) = some e := by
      rw [← Option.isSome_iff_exists, List.find?_isSome]
      exact ⟨e', f1, hine'⟩
    obtain ⟨g1, g2, g3⟩ := find_max (ends_less base hb).1 hE
    rw [hin e g1, List.any_eq_true] at g2
    obtain ⟨x, x1, x2⟩ := g2
    have l1 := same_length x2
    have l2 := same_length f2
    have l3 := g3 e' f1 hine'
    have l4 := r3 x x1 (List.any_eq_true.2 ⟨e, g1, x2⟩)
    have hee : e' = e := by_length (ends_less base hb).1 f1 g1 (by omega)
    show (match (ends base).find? (fun e => sameB r e) with | some e => n.take (n.length - r.length) ++ e | none => n) = _
    rw [hF, hE]
    subst hee
    show n.take (n.length - r.length) ++ e' = n.take (n.length - e'.length) ++ e'
    rw [l2]
end Go.Proofs.Ytcohceggooockaa.Cm
