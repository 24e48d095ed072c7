/- What is encoded is decoded: the mathematics of layer 8. No condition. -/
import Derived.Test.YtcohceggooockaaMsg
namespace Go.Proofs.Ytcohceggooockaa.Cm
open _root_.Go.Proofs.Ytcohceggooockaa.Nm

/-- What is written is read as one and the same name, wherever it stands. -/
theorem read_uniform (base n : List UInt8) (a : Nat) (hb : okL base = true) (hn : okL n = true) (ha : a ≤ 16000) :
    ∃ k, (sameB k n = true ∧ okL k = true) ∧ ∀ (l : List UInt8) (p : Nat) (y : List UInt8), (base = [0] ∨ ((∃ x, l.drop a = base ++ x) ∧ a + base.length ≤ p)) → l.drop p = wrL base a n ++ y → readL l p = ⟨k, p + (wrL base a n).length, 0⟩ := by
  have h255 := ((Nm.okL_spec base).1 hb).1
  have n255 := ((Nm.okL_spec n).1 hn).1
  have whole : wrL base a n = n → ∀ (l : List UInt8) (p : Nat) (y : List UInt8), l.drop p = wrL base a n ++ y → readL l p = ⟨n, p + (wrL base a n).length, 0⟩ := by
    intro hw l p y hy
    rw [hw] at hy ⊢
    exact read_whole l n y p hn hy
  have hsame : sameB n n = true := (sameB_spec n n).2 ⟨hn, hn, rfl⟩
  by_cases hroot : base = [0]
  · have hw : wrL base a n = n := by rw [hroot, wrL, ends_root]; rfl
    exact ⟨n, ⟨hsame, hn⟩, fun l p y _ hy => whole hw l p y hy⟩
  rcases wr_forms base a n hb hn with hw | ⟨e, r, ls, he, hs, hls, hnl, hw⟩
  · exact ⟨n, ⟨hsame, hn⟩, fun l p y _ hy => whole hw l p y hy⟩
  · obtain ⟨e1, e2, bs, e3, e4⟩ := ends_parts base hb e he
    obtain ⟨s1, s2, s3⟩ := (sameB_spec e r).1 hs
    have hlen := same_length hs
    have hel := (ends_less base hb).2 e he
    have he3 := (Nm.up1_ok e1 e2).2.1
    have hup := Nm.ok_pos (Nm.up1_ok e1 e2).1
    have hwl : (wrL base a n).length = (ls.flatMap lab).length + 2 := by rw [hw, beL2, List.length_append]; rfl
    have hnl2 : n.length = (ls.flatMap lab).length + r.length := by rw [hnl, List.length_append]
    have hlow : lowL (ls.flatMap lab ++ e) = lowL n := by
      rw [hnl]
      simp only [lowL, List.map_append] at s3 ⊢
      rw [s3]
    have hok : okL (ls.flatMap lab ++ e) = true := by rw [← Nm.ok_low, hlow, Nm.ok_low]; exact hn
    refine ⟨ls.flatMap lab ++ e, ⟨(sameB_spec _ _).2 ⟨hok, hn, hlow⟩, hok⟩, ?_⟩
    intro l p y hcase hy
    obtain ⟨⟨x, hx⟩, hp⟩ := hcase.resolve_left hroot
    have hread : readL l p = rdm l p p 0 [] := by rw [readL, if_pos (by omega), Int.toNat_natCast]
    generalize hm : a + base.length - e.length = m at *
    have hm2 : 49152 + a + base.length - e.length = 49152 + m := by omega
    rw [hm2, beL2] at hw
    have hmb : m < 16384 := by omega
    rw [hw] at hy
    have hy2 : l.drop p = ls.flatMap lab ++ (UInt8.ofNat ((49152 + m) / 256 % 256) :: UInt8.ofNat ((49152 + m) % 256) :: y) := by rw [hy]; simp
    have st1 : rdm l p p 0 [] = rdm l (p + (ls.flatMap lab).length) p 0 (ls.flatMap lab) := by
      have := rdm_labels l p 0 ls p [] hls ⟨_, hy2⟩ (by rw [List.nil_append]; omega)
      rw [List.nil_append] at this
      exact this
    have dr : l.drop (p + (ls.flatMap lab).length) = UInt8.ofNat ((49152 + m) / 256 % 256) :: UInt8.ofNat ((49152 + m) % 256) :: y := by
      rw [← List.drop_drop, hy2, List.drop_append_of_le_length (Nat.le_refl _), List.drop_length, List.nil_append]
    have c1 : l[p + (ls.flatMap lab).length]? = some (UInt8.ofNat ((49152 + m) / 256 % 256)) := by
      have := List.getElem?_drop (xs := l) (i := p + (ls.flatMap lab).length) (j := 0)
      rw [Nat.add_zero] at this
      rw [← this, dr]; rfl
    have c2 : l[p + (ls.flatMap lab).length + 1]? = some (UInt8.ofNat ((49152 + m) % 256)) := by
      rw [← List.getElem?_drop, dr]; rfl
    have n1 : (UInt8.ofNat ((49152 + m) / 256 % 256)).toNat = 192 + m / 256 := by simp; omega
    have n2 : (UInt8.ofNat ((49152 + m) % 256)).toNat = m % 256 := by simp; omega
    have n3 : ((UInt8.ofNat ((49152 + m) / 256 % 256)).toNat - 192) * 256 + (UInt8.ofNat ((49152 + m) % 256)).toNat = m := by rw [n1, n2]; omega
    have st2 := rdm_ptr (q := p) (nx := 0) (out := ls.flatMap lab) c1 (by omega) c2 (by rw [n3]; omega)
    rw [n3, if_pos rfl] at st2
    have hdm : l.drop m = e ++ x := by
      have e5 : m = a + (bs.flatMap lab).length := by
        have := congrArg List.length e4
        rw [List.length_append] at this
        omega
      rw [e5, ← List.drop_drop, hx, e4, List.append_assoc, List.drop_append_of_le_length (Nat.le_refl _), List.drop_length, List.nil_append]
    have st3 := rdm_name l m (p + (ls.flatMap lab).length + 2) m (ls.flatMap lab) e x e1 hdm (by rw [List.length_append]; omega)
    rw [if_neg (by omega)] at st3
    rw [hread, st1, st2, st3, hwl, Nat.add_assoc]
end Go.Proofs.Ytcohceggooockaa.Cm

namespace Go.Proofs.Ytcohceggooockaa
open Go.RowKit

/-- What is encoded is decoded as one and the same record, wherever it stands. -/
theorem dec_uniform {base : ByteArray} {r : Rec} (he : encOk base 12 r = true) :
    ∃ k : ByteArray, (Nm.sameB (bl k) (bl r.n) = true ∧ Nm.okL (bl k) = true) ∧ ∀ (m : ByteArray) (p : Nat) (y : List UInt8), (bl base = [0] ∨ ((∃ x, (bl m).drop 12 = bl base ++ x) ∧ 12 + base.size ≤ p)) → (bl m).drop p = bl (encS base 12 r) ++ y → decR m p = ⟨⟨k, r.t, r.c, r.l, r.d⟩, p + (encS base 12 r).size, 0⟩ := by
  have hs : recOk r = true ∧ Cm.wrOk (bl base) 12 (bl r.n) = true := by simpa [encOk] using he
  have hw := (wrOk_spec _ _ _).1 hs.2
  have hr := (recOk_spec r).1 hs.1
  have hd := check_len hr.2.2.2.2
  obtain ⟨o1, o2, o3, o4⟩ := rec_puts hs.1 hd
  have hwr : bl (wrS base 12 r.n) = Cm.wrL (bl base) 12 (bl r.n) := by rw [wrS, if_pos hs.2, bl_mk]; rfl
  have henc : bl (encS base 12 r) = Cm.wrL (bl base) 12 (bl r.n) ++ (bl (Oct.putS r.t (2 : Nat)) ++ (bl (Oct.putS r.c (2 : Nat)) ++ (bl (Oct.putS r.l (4 : Nat)) ++ (bl (Oct.putS r.d.size (2 : Nat)) ++ bl r.d)))) := by
    rw [encS, if_pos he, bl_append, hwr, recB]
    simp only [bl_append, List.append_assoc]
    rfl
  have hsz : (encS base 12 r).size = (Cm.wrL (bl base) 12 (bl r.n)).length + 10 + r.d.size := by
    rw [← bl_length, henc]
    simp only [List.length_append, put_bl_len o1, put_bl_len o2, put_bl_len o3, put_bl_len o4, bl_length r.d]
    omega
  obtain ⟨k, ⟨hsame, hkok⟩, hall⟩ := Cm.read_uniform (bl base) (bl r.n) 12 hw.1.1 hw.1.2 (by decide)
  refine ⟨⟨k.toArray⟩, ⟨by rw [bl_mk]; exact hsame, by rw [bl_mk]; exact hkok⟩, ?_⟩
  intro m p y hcase hy
  rw [henc] at hy
  simp only [List.append_assoc] at hy
  have hk := hall (bl m) p _ (by rw [bl_length]; exact hcase) hy
  clear hall hcase
  generalize hW : Cm.wrL (bl base) 12 (bl r.n) = W at *
  have hi : (bl m).drop (p + W.length) = bl (Oct.putS r.t (2 : Nat)) ++ (bl (Oct.putS r.c (2 : Nat)) ++ (bl (Oct.putS r.l (4 : Nat)) ++ (bl (Oct.putS r.d.size (2 : Nat)) ++ (bl r.d ++ y)))) := by
    rw [← List.drop_drop, hy, List.drop_left]
  obtain ⟨g1, b1, i1⟩ := get_at (by decide) o1 hi
  obtain ⟨g2, b2, i2⟩ := get_at (by decide) o2 i1
  obtain ⟨g3, b3, i3⟩ := get_at (by decide) o3 i2
  obtain ⟨g4, b4, i4⟩ := get_at (by decide) o4 i3
  obtain ⟨xp, hxp⟩ := Option.isSome_iff_exists.1 hr.2.2.2.2
  have hsp := split_at hxp i4 (by rw [bl_length]; omega)
  rw [bl_length] at hsp
  have hjoin := (Dt.wholeL_join hxp).1
  have hml : p + W.length + 2 + 2 + 4 + 2 + r.d.size ≤ m.size := by
    have := congrArg List.length i4
    rw [List.length_drop, List.length_append, bl_length, bl_length] at this
    omega
  have hE := exp_yes (k := r.t) hml hsp
  · rw [decR, hk]
    simp only [if_true]
    obtain ⟨D1, _⟩ := decB_in (m := m) (n := rrS ⟨k, p + W.length, 0⟩) (i := p + W.length) (by omega) _ rfl
    have q2 : ((p + W.length : Nat) : Int) + 2 = ((p + W.length + 2 : Nat) : Int) := by omega
    have q4 : ((p + W.length : Nat) : Int) + 2 + 2 = ((p + W.length + 2 + 2 : Nat) : Int) := by omega
    have q8 : ((p + W.length : Nat) : Int) + 2 + 2 + 4 = ((p + W.length + 2 + 2 + 4 : Nat) : Int) := by omega
    have q10 : ((p + W.length : Nat) : Int) + 2 + 2 + 4 + 2 = ((p + W.length + 2 + 2 + 4 + 2 : Nat) : Int) := by omega
    have g1' : Oct.getN m ((p + W.length : Nat) : Int) 2 = r.t := g1
    have g2' : Oct.getN m ((p + W.length + 2 : Nat) : Int) 2 = r.c := g2
    have g3' : Oct.getN m ((p + W.length + 2 + 2 : Nat) : Int) 4 = r.l := g3
    have g4' : Oct.getN m ((p + W.length + 2 + 2 + 4 : Nat) : Int) 2 = r.d.size := g4
    rw [q10, q8, q4, q2, g1', g2', g3', g4', hE] at D1
    rw [D1 rfl, hsz]
    have e1 : erS ⟨xp.join, 0⟩ = r.d := bl_inj (by rw [erS, bl_mk, hjoin])
    have e2 : ttlOf r.l = r.l := if_neg (by omega)
    have e3 : p + W.length + 10 + ((r.d.size : Nat) : Int).toNat = p + (W.length + 10 + r.d.size) := by rw [Int.toNat_natCast]; omega
    rw [e1, e2, e3]
    rfl

/-- One behind the other. -/
theorem decL_all {α β : Type} (f : Nat → D1 β) (g : α → β) (enc : α → List UInt8) (l : List UInt8) (P : Nat → Prop) (hP : ∀ p q, P p → p ≤ q → P q)
    : ∀ (xs : List α) (_ : ∀ x ∈ xs, ∀ p y, P p → l.drop p = enc x ++ y → f p = ⟨g x, p + (enc x).length, 0⟩) (p : Nat) (y : List UInt8), P p → l.drop p = xs.flatMap enc ++ y → decL f xs.length p = ⟨xs.map g, p + (xs.flatMap enc).length, 0⟩
  | [], _, p, y, _, _ => rfl
  | x :: xs, hf, p, y, hp, h => by
    rw [List.flatMap_cons, List.append_assoc] at h
    have h1 := hf x (by simp) p _ hp h
    have h2 : l.drop (p + (enc x).length) = xs.flatMap enc ++ y := by rw [← List.drop_drop, h, List.drop_left]
    have ih := decL_all f g enc l P hP xs (fun z hz => hf z (by simp [hz])) (p + (enc x).length) y (hP _ _ hp (by omega)) h2
    simp only [List.length_cons, decL, h1, if_true, ih, List.map_cons, List.flatMap_cons, List.length_append]
    rw [Nat.add_assoc]

theorem decQ_enc {m : ByteArray} {q : Qn} {p : Nat} {y : List UInt8} (hq : qnOk q = true) (h : (bl m).drop p = bl (qnS q) ++ y) : decQ m p = ⟨q, p + (bl (qnS q)).length, 0⟩ := by
  simp only [qnOk, num2, Bool.and_eq_true, decide_eq_true_eq] at hq
  obtain ⟨⟨h1, h2⟩, h3⟩ := hq
  have o1 : Oct.putOk q.t (2 : Nat) = true := by simp [Oct.putOk]; omega
  have o2 : Oct.putOk q.c (2 : Nat) = true := by simp [Oct.putOk]; omega
  have hb : bl (qnS q) = bl q.n ++ (bl (Oct.putS q.t (2 : Nat)) ++ bl (Oct.putS q.c (2 : Nat))) := by
    rw [qnS, bl_append, bl_append, List.append_assoc]; rfl
  have hlen : (bl (qnS q)).length = q.n.size + 4 := by
    rw [hb]; simp only [List.length_append, put_bl_len o1, put_bl_len o2, bl_length]
  rw [hb] at h
  simp only [List.append_assoc] at h
  have hr := Cm.read_whole (bl m) (bl q.n) _ p h1 h
  have hi : (bl m).drop (p + q.n.size) = bl (Oct.putS q.t (2 : Nat)) ++ (bl (Oct.putS q.c (2 : Nat)) ++ y) := by
    rw [← List.drop_drop, h, ← bl_length, List.drop_left]
  obtain ⟨g1, b1, i1⟩ := get_at (by decide) o1 hi
  obtain ⟨g2, b2, i2⟩ := get_at (by decide) o2 i1
  rw [bl_length] at hr
  rw [decQ, hr]
  simp only [if_true]
  rw [if_pos (by omega), hlen]
  have e1 : rrS ⟨bl q.n, p + q.n.size, 0⟩ = q.n := bl_inj (by rw [rrS, bl_mk])
  have g1' : Oct.getN m ((p + q.n.size : Nat) : Int) 2 = q.t := g1
  have g2' : Oct.getN m ((p + q.n.size + 2 : Nat) : Int) 2 = q.c := g2
  rw [e1, g1', g2', Nat.add_assoc]
end Go.Proofs.Ytcohceggooockaa

namespace Go.Proofs.Ytcohceggooockaa
open Go.RowKit

theorem appR_full (base : ByteArray) : ∀ (l : List Rec) (b : ByteArray), ¬ 65535 < (appR base b l).size → bl (appR base b l) = bl b ++ l.flatMap fun r => bl (encS base 12 r)
  | [], b, _ => by simp [appR]
  | r :: l, b, h => by
    by_cases h1 : 65535 < b.size
    · rw [appR_long base b _ h1] at h; exact absurd h1 h
    · rw [appR_step base b _ _ h1] at h ⊢
      rw [appR_full base l _ h, bl_append, List.flatMap_cons, List.append_assoc]
theorem appQ_full (b : ByteArray) (qs : List Qn) : bl (appQ b qs) = bl b ++ qs.flatMap fun q => bl (qnS q) := by
  rw [appQ]
  induction qs generalizing b with
  | nil => simp
  | cons q r ih => rw [List.foldl_cons, ih, bl_append, List.flatMap_cons, List.append_assoc]
/-- A record as it is told, when it was written behind base. -/
noncomputable def relR (base : ByteArray) (r : Rec) : Rec := if h : encOk base 12 r = true then ⟨Classical.choose (dec_uniform h), r.t, r.c, r.l, r.d⟩ else r
theorem relR_spec {base : ByteArray} {r : Rec} (h : encOk base 12 r = true) : (relR base r).t = r.t ∧ (relR base r).c = r.c ∧ (relR base r).l = r.l ∧ (relR base r).d = r.d ∧ Nm.sameB (bl (relR base r).n) (bl r.n) = true ∧ Nm.okL (bl (relR base r).n) = true := by
  have hs := (Classical.choose_spec (dec_uniform h)).1
  rw [relR, dif_pos h]
  exact ⟨rfl, rfl, rfl, rfl, hs.1, hs.2⟩
theorem relR_dec {base : ByteArray} {r : Rec} (h : encOk base 12 r = true) (m : ByteArray) (p : Nat) (y : List UInt8) (hc : bl base = [0] ∨ ((∃ x, (bl m).drop 12 = bl base ++ x) ∧ 12 + base.size ≤ p)) (hy : (bl m).drop p = bl (encS base 12 r) ++ y) :
    decR1 m p = ⟨relR base r, p + (bl (encS base 12 r)).length, 0⟩ := by
  have hs := (Classical.choose_spec (dec_uniform h)).2 m p y hc hy
  rw [decR1, hs, relR, dif_pos h, bl_length]
theorem num_ok {n : Nat} (h : n ≤ 65535) : Oct.putOk (n : Int) (2 : Nat) = true := by simp [Oct.putOk]; omega
theorem num_ok' {x : Int} (h : num2 x = true) : Oct.putOk x (2 : Nat) = true := by
  simp only [num2, decide_eq_true_eq] at h
  simp [Oct.putOk]; omega

/-- What is encoded is decoded; and with another number laid at its beginning it is the same, but for that. -/
theorem dec_msg (m : Ms) (hok : msOk m = true) (hfit : ¬ 65535 < (encT m).size) (id : Int) (hid : num2 id = true) (s : ByteArray) (hs : bl s = bl (Oct.putS id (2 : Nat)) ++ (bl (encT m)).drop 2) :
    decM s = (⟨id, m.bits, m.qs, m.an.map (relR (baseS m)), m.ns.map (relR (baseS m)), m.ar.map (relR (baseS m))⟩, 0) := by
  have hok' := hok
  simp only [msOk, Bool.and_eq_true, List.all_eq_true] at hok'
  obtain ⟨⟨⟨⟨⟨i1, i2⟩, q1, q2⟩, a1, a2⟩, n1, n2⟩, r1, r2⟩ := hok'
  have o0 := num_ok' hid
  have oi := num_ok' i1
  have o1 := num_ok' i2
  have o2 := num_ok' q1
  have o3 := num_ok' a1
  have o4 := num_ok' n1
  have o5 := num_ok' r1
  have hbase : Nm.okL (bl (baseS m)) = true := by
    unfold baseS
    split
    · decide
    · rename_i q l e
      have := q2 q (by rw [e]; simp)
      simp only [qnOk, Bool.and_eq_true] at this
      exact this.1.1
  have henc : ∀ r, recOk r = true → encOk (baseS m) 12 r = true := by
    intro r hr
    have := ((recOk_spec r).1 hr).1
    simp [encOk, hr, Cm.wrOk, hbase, this]
  -- the bytes
  have hfull : bl (encT m) = bl (Oct.putS m.id (2 : Nat)) ++ (bl (Oct.putS m.bits (2 : Nat)) ++ (bl (Oct.putS m.qs.length (2 : Nat)) ++ (bl (Oct.putS m.an.length (2 : Nat)) ++ (bl (Oct.putS m.ns.length (2 : Nat)) ++ (bl (Oct.putS m.ar.length (2 : Nat)) ++ (m.qs.flatMap (fun q => bl (qnS q)) ++ (m.an.flatMap (fun r => bl (encS (baseS m) 12 r)) ++ (m.ns.flatMap (fun r => bl (encS (baseS m) 12 r)) ++ m.ar.flatMap (fun r => bl (encS (baseS m) 12 r)))))))))) := by
    rw [encT, appR_full _ _ _ hfit, appQ_full, headS]
    simp only [bl_append, List.flatMap_append, List.append_assoc]
    rfl
  have hdrop : (bl (encT m)).drop 2 = bl (Oct.putS m.bits (2 : Nat)) ++ (bl (Oct.putS m.qs.length (2 : Nat)) ++ (bl (Oct.putS m.an.length (2 : Nat)) ++ (bl (Oct.putS m.ns.length (2 : Nat)) ++ (bl (Oct.putS m.ar.length (2 : Nat)) ++ (m.qs.flatMap (fun q => bl (qnS q)) ++ (m.an.flatMap (fun r => bl (encS (baseS m) 12 r)) ++ (m.ns.flatMap (fun r => bl (encS (baseS m) 12 r)) ++ m.ar.flatMap (fun r => bl (encS (baseS m) 12 r))))))))) := by
    have dd : ∀ X Y : List UInt8, X.length = 2 → (X ++ Y).drop 2 = Y := fun X Y h => by rw [← h, List.drop_left]
    rw [hfull, dd _ _ (put_bl_len oi)]
  have hlen : (bl s).length = (bl (encT m)).length := by
    rw [hs, List.length_append, put_bl_len o0, List.length_drop]
    have : 2 ≤ (bl (encT m)).length := by rw [hfull, List.length_append, put_bl_len oi]; omega
    omega
  rw [bl_length, bl_length] at hlen
  rw [hdrop] at hs
  have h0 : (bl s).drop 0 = bl (Oct.putS id (2 : Nat)) ++ _ := hs
  obtain ⟨g0, b0, j0⟩ := get_at (by decide) o0 h0
  obtain ⟨g1, b1, j1⟩ := get_at (by decide) o1 j0
  obtain ⟨g2, b2, j2⟩ := get_at (by decide) o2 j1
  obtain ⟨g3, b3, j3⟩ := get_at (by decide) o3 j2
  obtain ⟨g4, b4, j4⟩ := get_at (by decide) o4 j3
  obtain ⟨g5, b5, j5⟩ := get_at (by decide) o5 j4
  have N0 : num s 0 = id := g0
  have N1 : num s 1 = m.bits := g1
  have N2 : num s 2 = m.qs.length := g2
  have N3 : num s 3 = m.an.length := g3
  have N4 : num s 4 = m.ns.length := g4
  have N5 : num s 5 = m.ar.length := g5
  have d12 : (bl s).drop 12 = m.qs.flatMap (fun q => bl (qnS q)) ++ (m.an.flatMap (fun r => bl (encS (baseS m) 12 r)) ++ (m.ns.flatMap (fun r => bl (encS (baseS m) 12 r)) ++ m.ar.flatMap (fun r => bl (encS (baseS m) 12 r)))) := j5
  -- the questions
  have hQ := decL_all (decQ s) (fun q : Qn => q) (fun q => bl (qnS q)) (bl s) (fun _ => True) (fun _ _ _ _ => trivial) m.qs (fun q hq p y _ h => decQ_enc (q2 q hq) h) 12 _ trivial d12
  rw [List.map_id'] at hQ
  have dA : (bl s).drop (12 + (m.qs.flatMap (fun q => bl (qnS q))).length) = m.an.flatMap (fun r => bl (encS (baseS m) 12 r)) ++ (m.ns.flatMap (fun r => bl (encS (baseS m) 12 r)) ++ m.ar.flatMap (fun r => bl (encS (baseS m) 12 r))) := by
    rw [← List.drop_drop, d12, List.drop_left]
  have hx : bl (baseS m) = [0] ∨ ((∃ x, (bl s).drop 12 = bl (baseS m) ++ x) ∧ 12 + (baseS m).size ≤ 12 + (m.qs.flatMap (fun q => bl (qnS q))).length) := by
    cases hq : m.qs with
    | nil => left; simp [baseS, hq]; rfl
    | cons q l =>
      right
      have hb : baseS m = q.n := by simp [baseS, hq]
      rw [hb]
      refine ⟨⟨_, by rw [d12, hq, List.flatMap_cons, qnS, bl_append, bl_append, List.append_assoc, List.append_assoc, List.append_assoc]⟩, ?_⟩
      rw [List.flatMap_cons, List.length_append, qnS, bl_append, bl_append]
      simp only [List.length_append, bl_length]
      omega
  have step : ∀ (xs : List Rec), (∀ r ∈ xs, recOk r = true) → ∀ (p : Nat) (y : List UInt8), 12 + (m.qs.flatMap (fun q => bl (qnS q))).length ≤ p → (bl s).drop p = xs.flatMap (fun r => bl (encS (baseS m) 12 r)) ++ y → decL (decR1 s) xs.length p = ⟨xs.map (relR (baseS m)), p + (xs.flatMap (fun r => bl (encS (baseS m) 12 r))).length, 0⟩ := by
    intro xs hxs p y hp hd
    refine decL_all (decR1 s) (relR (baseS m)) (fun r => bl (encS (baseS m) 12 r)) (bl s) (fun p => 12 + (m.qs.flatMap (fun q => bl (qnS q))).length ≤ p) (fun p q h1 h2 => by omega) xs ?_ p y hp hd
    intro r hr p' y' hp' h'
    refine relR_dec (henc r (hxs r hr)) s p' y' ?_ h'
    rcases hx with h | ⟨h1, h2⟩
    · exact .inl h
    · exact .inr ⟨h1, by omega⟩
  have hA := step m.an a2 _ _ (Nat.le_refl _) dA
  have dN : (bl s).drop (12 + (m.qs.flatMap (fun q => bl (qnS q))).length + (m.an.flatMap (fun r => bl (encS (baseS m) 12 r))).length) = m.ns.flatMap (fun r => bl (encS (baseS m) 12 r)) ++ m.ar.flatMap (fun r => bl (encS (baseS m) 12 r)) := by
    rw [← List.drop_drop, dA, List.drop_left]
  have hN := step m.ns n2 _ _ (by omega) dN
  have dR : (bl s).drop (12 + (m.qs.flatMap (fun q => bl (qnS q))).length + (m.an.flatMap (fun r => bl (encS (baseS m) 12 r))).length + (m.ns.flatMap (fun r => bl (encS (baseS m) 12 r))).length) = m.ar.flatMap (fun r => bl (encS (baseS m) 12 r)) ++ [] := by
    rw [← List.drop_drop, dN, List.drop_left, List.append_nil]
  have hR := step m.ar r2 _ _ (by omega) dR
  have hend : 12 + (m.qs.flatMap (fun q => bl (qnS q))).length + (m.an.flatMap (fun r => bl (encS (baseS m) 12 r))).length + (m.ns.flatMap (fun r => bl (encS (baseS m) 12 r))).length + (m.ar.flatMap (fun r => bl (encS (baseS m) 12 r))).length = s.size := by
    have := congrArg List.length dR
    rw [List.length_drop, bl_length, List.append_nil] at this
    have h2 := congrArg List.length dN
    rw [List.length_drop, bl_length, List.length_append] at h2
    have h3 := congrArg List.length dA
    rw [List.length_drop, bl_length, List.length_append, List.length_append] at h3
    have h4 := congrArg List.length d12
    rw [List.length_drop, bl_length, List.length_append, List.length_append, List.length_append] at h4
    omega
  rw [decM, if_neg (by omega), if_neg (by omega), decT, N0, N1, N2, N3, N4, N5]
  simp only [Int.toNat_natCast, hQ, hA, hN, hR, hend]
  simp
end Go.Proofs.Ytcohceggooockaa
