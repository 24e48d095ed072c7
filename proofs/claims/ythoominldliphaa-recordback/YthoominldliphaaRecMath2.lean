/- What is encoded is decoded: the mathematics of layer 6. No condition. -/
import Derived.Test.YthoominldliphaaRecWalk2
import Derived.Test.YthoominldliphaaRecWalk3
namespace Go.Proofs.Ythoominldliphaa
open Go.RowKit

/-- Data that has its type's shape is taken apart as it stands, wherever it stands. -/
theorem split_at {l d y : List UInt8} {p : Nat} {k : Int} {x : Dt.Pt} (h : Dt.wholeL k d = some x) (hd : l.drop p = d ++ y) (hp : p ≤ l.length) : Dt.splitL l p d.length k = some x := by
  obtain ⟨h1, h2⟩ := Dt.wholeL_parts h
  have hlen : l.length - p = d.length + y.length := by
    have := congrArg List.length hd
    rw [List.length_drop, List.length_append] at this
    exact this
  rcases h2 with ⟨s, hs, hf⟩ | ⟨hs, hn, rfl, ht⟩
  · have hb := (Dt.fits_small hs hf).1
    obtain ⟨g1, g2, g3, g4⟩ := hf
    rw [h1] at hb
    have hj : d = x.a ++ (x.ns.flatten ++ x.b) := by rw [← h1, Dt.Pt.join, List.append_assoc]
    have hl1 : d.length = s.a + x.ns.flatten.length + s.b := by rw [hj]; simp only [List.length_append]; omega
    have hd1 : l.drop (p + s.a) = x.ns.flatten ++ (x.b ++ y) := by
      rw [← List.drop_drop, hd, hj, List.append_assoc, ← g1, List.drop_left, List.append_assoc]
    have hr := Dt.rds_whole l x.ns (p + s.a) (x.b ++ y) g3 hd1
    rw [g2] at hr
    have hd2 : l.drop (p + s.a + x.ns.flatten.length) = x.b ++ y := by rw [← List.drop_drop, hd1, List.drop_left]
    rw [Dt.splitL, if_neg (by omega), hs]
    simp only [Dt.takeL]
    rw [if_pos (by omega), hr]
    simp only
    rw [if_pos (by omega)]
    have e1 : Dt.part l p s.a = x.a := by rw [Dt.part, hd, hj, List.append_assoc, ← g1, List.take_left]
    have e2 : Dt.part l (p + s.a + x.ns.flatten.length) s.b = x.b := by rw [Dt.part, hd2, ← g4, List.take_left]
    rw [e1, e2]
  · have e1 : Dt.part l p d.length = d := by rw [Dt.part, hd, List.take_left]
    rw [Dt.splitL, if_neg (by omega), hs]
    simp only [e1]
    rw [if_neg]
    intro h3
    rw [ht h3.1] at h3
    exact absurd h3.2 (by simp)
/-- A number that was put is got where it stands. -/
theorem get_at {m : ByteArray} {i k : Nat} {n : Int} {y : List UInt8} (hk : 1 ≤ k ∧ k ≤ 4) (ho : Oct.putOk n k = true) (h : (bl m).drop i = bl (Oct.putS n k) ++ y) : Oct.getN m i k = n ∧ i + k ≤ m.size ∧ (bl m).drop (i + k) = y := by
  have hb : bl (Oct.putS n k) = Oct.beL n.toNat k := by rw [Oct.putS_yes _ _ ho, bl_mk]; rfl
  have hs := (Oct.putOk_spec n k).1 ho
  rw [hb] at h
  have hl : k ≤ (bl m).length - i := by
    have := congrArg List.length h
    rw [List.length_drop, List.length_append, Oct.beL_length] at this
    omega
  rw [bl_length] at hl
  have h1 : i + k ≤ m.size := by omega
  have ht : Oct.takeOk m i k = true := by rw [takeOk_nat]; simpa using h1
  have hg : Oct.getOk m i k = true := by rw [Oct.getOk_spec]; exact ⟨by omega, ht⟩
  refine ⟨?_, h1, ?_⟩
  · rw [Oct.getN, if_pos hg]
    have e : (Oct.takeS m i k).data.toList = Oct.beL n.toNat k := by
      have e2 : bl (Oct.takeS m i k) = Dt.part (bl m) i k := takeS_nat m i k h1
      have e3 : bl (Oct.takeS m i k) = (Oct.takeS m i k).data.toList := rfl
      rw [← e3, e2, Dt.part, h]
      conv => lhs; arg 1; rw [← Oct.beL_length n.toNat k]
      exact List.take_left
    rw [e, Oct.numL_beL k n.toNat (by
      have := hs.2.2.2
      rw [Int.toNat_natCast] at this
      have h2 : ((n.toNat : Nat) : Int) = n := Int.toNat_of_nonneg hs.2.2.1
      rw [← h2] at this
      exact Int.ofNat_lt.1 (by rw [Int.natCast_pow]; exact this))]
    exact Int.toNat_of_nonneg hs.2.2.1
  · rw [← List.drop_drop, h]
    conv => lhs; arg 1; rw [← Oct.beL_length n.toNat k]
    exact List.drop_left

theorem rec_puts {r : Rec} (h : recOk r = true) (hd : r.d.size ≤ 65535) : Oct.putOk r.t (2 : Nat) = true ∧ Oct.putOk r.c (2 : Nat) = true ∧ Oct.putOk r.l (4 : Nat) = true ∧ Oct.putOk r.d.size (2 : Nat) = true := by
  obtain ⟨_, h1, h2, h3, _⟩ := (recOk_spec r).1 h
  have e2 : (256 : Int) ^ (2 : Nat) = 65536 := by decide
  have e4 : (256 : Int) ^ (4 : Nat) = 4294967296 := by decide
  refine ⟨?_, ?_, ?_, ?_⟩
  · rw [Oct.putOk_spec, Int.toNat_natCast, e2]; omega
  · rw [Oct.putOk_spec, Int.toNat_natCast, e2]; omega
  · rw [Oct.putOk_spec, Int.toNat_natCast, e4]; omega
  · rw [Oct.putOk_spec, Int.toNat_natCast, e2]; omega
theorem put_bl_len {n : Int} {k : Nat} (h : Oct.putOk n k = true) : (bl (Oct.putS n k)).length = k := by
  rw [Oct.putS_yes _ _ h, bl_mk, Oct.beL_length, Int.toNat_natCast]
theorem check_len {k : Int} {d : ByteArray} (h : Dt.checkB k (bl d) = true) : d.size ≤ 65535 := by
  obtain ⟨x, hx⟩ := Option.isSome_iff_exists.1 h
  have := (Dt.whole_names hx).2.2
  rwa [bl_length] at this
/-- What is encoded is decoded, wherever it stands behind the name that it was written behind. -/
theorem dec_enc {m base : ByteArray} {r : Rec} {p : Nat} {x y : List UInt8} (he : encOk base 12 r = true) (hx : (bl m).drop 12 = bl base ++ x) (hp : 12 + base.size ≤ p) (hy : (bl m).drop p = bl (encS base 12 r) ++ y) :
    ∃ k : ByteArray, decR m p = ⟨⟨k, r.t, r.c, r.l, r.d⟩, p + (encS base 12 r).size, 0⟩ ∧ Nm.sameB (bl k) (bl r.n) = true ∧ k.size ≤ 255 := by
  have hs : recOk r = true ∧ Cm.wrOk (bl base) 12 (bl r.n) = true := by simpa [encOk] using he
  have hw := (wrOk_spec _ _ _).1 hs.2
  have hr := (recOk_spec r).1 hs.1
  have hd := check_len hr.2.2.2.2
  obtain ⟨o1, o2, o3, o4⟩ := rec_puts hs.1 hd
  have hwr : bl (wrS base 12 r.n) = Cm.wrL (bl base) 12 (bl r.n) := by rw [wrS, if_pos hs.2, bl_mk]; rfl
  have henc : bl (encS base 12 r) = Cm.wrL (bl base) 12 (bl r.n) ++ (bl (Oct.putS r.t (2 : Nat)) ++ (bl (Oct.putS r.c (2 : Nat)) ++ (bl (Oct.putS r.l (4 : Nat)) ++ (bl (Oct.putS r.d.size (2 : Nat)) ++ bl r.d)))) := by
    rw [encS, if_pos he, bl_append, hwr, recB]
    simp only [bl_append, List.append_assoc]
    rfl
  have hsz : (encS base 12 r).size = (Cm.wrL (bl base) 12 (bl r.n)).length + 10 + r.d.size := by
    rw [← bl_length, henc]
    simp only [List.length_append, put_bl_len o1, put_bl_len o2, put_bl_len o3, put_bl_len o4, bl_length r.d]
    omega
  rw [henc] at hy
  simp only [List.append_assoc] at hy
  obtain ⟨k, hk, hsame, _, _⟩ := Cm.read_written (bl m) (bl base) (bl r.n) 12 p x _ hw.1.1 hw.1.2 (by decide) hx (by rw [bl_length]; exact hp) hy
  generalize hW : Cm.wrL (bl base) 12 (bl r.n) = W at *
  have hi : (bl m).drop (p + W.length) = bl (Oct.putS r.t (2 : Nat)) ++ (bl (Oct.putS r.c (2 : Nat)) ++ (bl (Oct.putS r.l (4 : Nat)) ++ (bl (Oct.putS r.d.size (2 : Nat)) ++ (bl r.d ++ y)))) := by
    rw [← List.drop_drop, hy, List.drop_left]
  obtain ⟨g1, b1, i1⟩ := get_at (by decide) o1 hi
  obtain ⟨g2, b2, i2⟩ := get_at (by decide) o2 i1
  obtain ⟨g3, b3, i3⟩ := get_at (by decide) o3 i2
  obtain ⟨g4, b4, i4⟩ := get_at (by decide) o4 i3
  obtain ⟨xp, hxp⟩ := Option.isSome_iff_exists.1 hr.2.2.2.2
  have hsp := split_at hxp i4 (by rw [bl_length]; omega)
  rw [bl_length] at hsp
  have hjoin := (Dt.wholeL_join hxp).1
  have hml : p + W.length + 2 + 2 + 4 + 2 + r.d.size ≤ m.size := by
    have := congrArg List.length i4
    rw [List.length_drop, List.length_append, bl_length, bl_length] at this
    omega
  have hE := exp_yes (k := r.t) hml hsp
  refine ⟨⟨k.toArray⟩, ?_, by rw [bl_mk]; exact hsame, ?_⟩
  · rw [decR, hk]
    simp only [if_true]
    obtain ⟨D1, _⟩ := decB_in (m := m) (n := rrS ⟨k, p + W.length, 0⟩) (i := p + W.length) (by omega) _ rfl
    have q2 : ((p + W.length : Nat) : Int) + 2 = ((p + W.length + 2 : Nat) : Int) := by omega
    have q4 : ((p + W.length : Nat) : Int) + 2 + 2 = ((p + W.length + 2 + 2 : Nat) : Int) := by omega
    have q8 : ((p + W.length : Nat) : Int) + 2 + 2 + 4 = ((p + W.length + 2 + 2 + 4 : Nat) : Int) := by omega
    have q10 : ((p + W.length : Nat) : Int) + 2 + 2 + 4 + 2 = ((p + W.length + 2 + 2 + 4 + 2 : Nat) : Int) := by omega
    have g1' : Oct.getN m ((p + W.length : Nat) : Int) 2 = r.t := g1
    have g2' : Oct.getN m ((p + W.length + 2 : Nat) : Int) 2 = r.c := g2
    have g3' : Oct.getN m ((p + W.length + 2 + 2 : Nat) : Int) 4 = r.l := g3
    have g4' : Oct.getN m ((p + W.length + 2 + 2 + 4 : Nat) : Int) 2 = r.d.size := g4
    rw [q10, q8, q4, q2, g1', g2', g3', g4', hE] at D1
    rw [D1 rfl, hsz]
    have e1 : erS ⟨xp.join, 0⟩ = r.d := bl_inj (by rw [erS, bl_mk, hjoin])
    have e2 : ttlOf r.l = r.l := if_neg (by omega)
    have e3 : p + W.length + 10 + ((r.d.size : Nat) : Int).toNat = p + (W.length + 10 + r.d.size) := by rw [Int.toNat_natCast]; omega
    rw [e1, e2, e3]
    rfl
  · rw [← bl_length, bl_mk]
    rcases Cm.read_names (bl m) p with h | h | ⟨n, q, h, h2, _⟩
    · rw [hk] at h; simp [Cm.bad] at h
    · rw [hk] at h; simp [Cm.bad] at h
    · rw [hk] at h
      simp only [Cm.RR.mk.injEq] at h
      rw [h.1]
      exact (Dt.ok_len h2).2
end Go.Proofs.Ythoominldliphaa
