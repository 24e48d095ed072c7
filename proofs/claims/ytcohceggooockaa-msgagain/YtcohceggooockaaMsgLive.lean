/- The examples that the statements of layer 8 ask for answer true. -/
import Derived.Test.YtcohceggooockaaMsgWA
import Derived.Test.YtcohceggooockaaMsgW5
namespace Go.Proofs.Ytcohceggooockaa
open Go.RowKit

def q0 : Qn := ⟨⟨#[1, 97, 0]⟩, 1, 1⟩
def rr0 : Rec := ⟨⟨#[1, 97, 0]⟩, 1, 1, 5, ⟨#[97, 98, 99, 100]⟩⟩
def m0 : Ms := ⟨7, 33152, [q0], [rr0], [], []⟩
theorem Blk.row {w : World} {G : Nat} {cs : Array Value} {ty : TypeId} (h : Blk w G cs ty) (c : Nat) : ReadRow w (.slice (some ⟨G, 0, none⟩) 1 1) c [cs.toList] := by
  refine ⟨_, 1, rfl, by simp, fun _ => ⟨G, 0, rfl, h.lt, fun i hi j hj => ?_⟩⟩
  have : i = 0 := by simpa using hi
  subst this
  simp only [Nat.zero_mul, Nat.zero_add]
  simp [h.cell j]
theorem l_enc : encM m0 = (⟨#[0, 7, 129, 128, 0, 1, 0, 1, 0, 0, 0, 0, 1, 97, 0, 0, 1, 0, 1, 192, 12, 0, 1, 0, 1, 0, 0, 0, 5, 0, 4, 97, 98, 99, 100]⟩, 0) := by decide +kernel
theorem l_dec : decM ⟨#[0, 7, 129, 128, 0, 1, 0, 1, 0, 0, 0, 0, 1, 97, 0, 0, 1, 0, 1, 192, 12, 0, 1, 0, 1, 0, 0, 0, 5, 0, 4, 97, 98, 99, 100]⟩ = (m0, 0) := by decide +kernel
theorem l_dec1 : decM ⟨#[0, 7, 129, 128, 0, 1, 0, 1, 0, 0, 0, 0, 1, 97, 0, 0, 1, 0, 1, 192, 12, 0, 1, 0, 1, 0, 0, 0, 5, 0, 4, 97, 98, 99, 100, 122]⟩ = (noMs, 5) := by decide +kernel
theorem l_dec2 : decM ⟨#[115, 104, 111, 114, 116]⟩ = (noMs, 2) := by decide +kernel
theorem l_dec3 : decM ⟨#[0, 0, 0, 0, 0, 0, 0, 0, 0, 0, 0, 0]⟩ = (noMs, 0) := by decide +kernel
theorem l_head : headV ⟨#[0, 7, 129, 128, 0, 1, 0, 1, 0, 0, 0, 0, 1, 97, 0, 0, 1, 0, 1, 192, 12, 0, 1, 0, 1, 0, 0, 0, 5, 0, 4, 97, 98, 99, 100]⟩ = .tuple #[.int .i64 7, .int .i64 33152, .bool true] := by
  have h0 : hd ⟨#[0, 7, 129, 128, 0, 1, 0, 1, 0, 0, 0, 0, 1, 97, 0, 0, 1, 0, 1, 192, 12, 0, 1, 0, 1, 0, 0, 0, 5, 0, 4, 97, 98, 99, 100]⟩ 0 = 7 := by decide +kernel
  have h1 : hd ⟨#[0, 7, 129, 128, 0, 1, 0, 1, 0, 0, 0, 0, 1, 97, 0, 0, 1, 0, 1, 192, 12, 0, 1, 0, 1, 0, 0, 0, 5, 0, 4, 97, 98, 99, 100]⟩ 1 = 33152 := by decide +kernel
  rw [headV, h0, h1]
  rfl
theorem l_cat : (⟨#[0, 7, 129, 128, 0, 1, 0, 1, 0, 0, 0, 0, 1, 97, 0, 0, 1, 0, 1, 192, 12, 0, 1, 0, 1, 0, 0, 0, 5, 0, 4, 97, 98, 99, 100]⟩ : ByteArray) ++ ⟨#[122]⟩ = ⟨#[0, 7, 129, 128, 0, 1, 0, 1, 0, 0, 0, 0, 1, 97, 0, 0, 1, 0, 1, 192, 12, 0, 1, 0, 1, 0, 0, 0, 5, 0, 4, 97, 98, 99, 100, 122]⟩ := by decide +kernel
theorem l_ok : msOk m0 = true := by decide +kernel
theorem l_no : msOk ⟨-1, 0, [], [], [], []⟩ = false := by decide +kernel
theorem small8 (s : ByteArray) (h : s.size ≤ 100) : s.size ≤ maxLen := by unfold maxLen; omega
theorem m0_fine : MsFine m0 := by
  refine ⟨⟨by unfold maxLen; decide, ?_⟩, ⟨by unfold maxLen; decide, ?_⟩, ⟨by unfold maxLen; decide, by simp [m0]⟩, ⟨by unfold maxLen; decide, by simp [m0]⟩⟩
  · intro x hx
    simp only [m0, List.mem_singleton] at hx
    subst hx
    exact small8 _ (by decide)
  · intro x hx
    simp only [m0, List.mem_singleton] at hx
    subst hx
    exact ⟨small8 _ (by decide), small8 _ (by decide)⟩
theorem no_fine (i : Int) : MsFine ⟨i, 0, [], [], [], []⟩ :=
  ⟨⟨Nat.zero_le _, by simp⟩, ⟨Nat.zero_le _, by simp⟩, ⟨Nat.zero_le _, by simp⟩, ⟨Nat.zero_le _, by simp⟩⟩
theorem live_dec {w : World} {d : Ms × Nat} {m : Ms} {n : Nat} {e : Ending} {w' : World} (h : DecEnd w d e w') (hd : d = (m, n)) :
    ∃ aq kq aa ka an kn ar kr, e = .returned (.tuple #[.agg #[.int .i64 m.id, .int .i64 m.bits, .slice aq m.qs.length kq, .slice aa m.an.length ka, .slice an m.ns.length kn, .slice ar m.ar.length kr], .int .i64 n]) ∧
      MsAt w' (.agg #[.int .i64 m.id, .int .i64 m.bits, .slice aq m.qs.length kq, .slice aa m.an.length ka, .slice an m.ns.length kn, .slice ar m.ar.length kr]) m ∧ Keeps w w' := by
  subst hd
  obtain ⟨v, rfl, ⟨vq, va, vn, vr, rfl, rq, ra, rn, rr⟩, k⟩ := h
  obtain ⟨aq, kq, h1⟩ := rq.len
  obtain ⟨aa, ka, h2⟩ := ra.len
  obtain ⟨an, kn, h3⟩ := rn.len
  obtain ⟨ar, kr, h4⟩ := rr.len
  rw [List.length_map] at h1 h2 h3 h4
  subst h1 h2 h3 h4
  exact ⟨aq, kq, aa, ka, an, kn, ar, kr, rfl, ⟨_, _, _, _, rfl, rq, ra, rn, rr⟩, k⟩
theorem live_decM {w : World} {d : Ms × Nat} {n : Nat} {e : Ending} {w' : World} (h : DecEnd w d e w') (hd : d = (m0, n)) :
    ∃ aq kq aa ka an kn ar kr, e = .returned (.tuple #[.agg #[.int .i64 7, .int .i64 33152, .slice aq 1 kq, .slice aa 1 ka, .slice an 0 kn, .slice ar 0 kr], .int .i64 n]) ∧ MsAt w' (.agg #[.int .i64 7, .int .i64 33152, .slice aq 1 kq, .slice aa 1 ka, .slice an 0 kn, .slice ar 0 kr]) m0 ∧ Keeps w w' := live_dec h hd
theorem live_decN {w : World} {d : Ms × Nat} {n : Nat} {e : Ending} {w' : World} (h : DecEnd w d e w') (hd : d = (noMs, n)) :
    ∃ aq kq aa ka an kn ar kr, e = .returned (.tuple #[.agg #[.int .i64 0, .int .i64 0, .slice aq 0 kq, .slice aa 0 ka, .slice an 0 kn, .slice ar 0 kr], .int .i64 n]) ∧ MsAt w' (.agg #[.int .i64 0, .int .i64 0, .slice aq 0 kq, .slice aa 0 ka, .slice an 0 kn, .slice ar 0 kr]) noMs ∧ Keeps w w' := live_dec h hd
theorem msBare (w : World) (i : Int) : MsAt w (.agg #[.int .i64 i, .int .i64 0, .slice none 0 0, .slice none 0 0, .slice none 0 0, .slice none 0 0]) ⟨i, 0, [], [], [], []⟩ := ⟨_, _, _, _, rfl, ReadRow.nil, ReadRow.nil, ReadRow.nil, ReadRow.nil⟩

set_option maxHeartbeats 8000000 in
set_option maxRecDepth 100000 in
theorem live8_any (w : World) : Calls Try.prog 9 #[] w fun e w' => e = .returned (.bool true) ∧ Keeps w w' := by
  have B1 := ((Blk.made w #[.string ⟨#[1, 97, 0]⟩, .int .i64 1, .int .i64 1] 42).alloc (.cells #[.string ⟨#[1, 97, 0]⟩, .int .i64 1, .int .i64 1, .int .i64 5, .string ⟨#[97, 98, 99, 100]⟩] 44)).alloc (.cells #[.int .i64 7, .int .i64 33152, .slice (some ⟨w.heap.size, 0, none⟩) 1 1, .slice (some ⟨w.heap.size + 1, 0, none⟩) 1 1, .slice none 0 0, .slice none 0 0] 26)
  have B2 := (Blk.made (w.alloc (.cells #[.string ⟨#[1, 97, 0]⟩, .int .i64 1, .int .i64 1] 42)) #[.string ⟨#[1, 97, 0]⟩, .int .i64 1, .int .i64 1, .int .i64 5, .string ⟨#[97, 98, 99, 100]⟩] 44).alloc (.cells #[.int .i64 7, .int .i64 33152, .slice (some ⟨w.heap.size, 0, none⟩) 1 1, .slice (some ⟨w.heap.size + 1, 0, none⟩) 1 1, .slice none 0 0, .slice none 0 0] 26)
  have B3 := Blk.made ((w.alloc (.cells #[.string ⟨#[1, 97, 0]⟩, .int .i64 1, .int .i64 1] 42)).alloc (.cells #[.string ⟨#[1, 97, 0]⟩, .int .i64 1, .int .i64 1, .int .i64 5, .string ⟨#[97, 98, 99, 100]⟩] 44)) #[.int .i64 7, .int .i64 33152, .slice (some ⟨w.heap.size, 0, none⟩) 1 1, .slice (some ⟨w.heap.size + 1, 0, none⟩) 1 1, .slice none 0 0, .slice none 0 0] 26
  have K := (((Keeps.refl w).alloc (.cells #[.string ⟨#[1, 97, 0]⟩, .int .i64 1, .int .i64 1] 42)).alloc (.cells #[.string ⟨#[1, 97, 0]⟩, .int .i64 1, .int .i64 1, .int .i64 5, .string ⟨#[97, 98, 99, 100]⟩] 44)).alloc (.cells #[.int .i64 7, .int .i64 33152, .slice (some ⟨w.heap.size, 0, none⟩) 1 1, .slice (some ⟨w.heap.size + 1, 0, none⟩) 1 1, .slice none 0 0, .slice none 0 0] 26)
  rw [size_alloc] at B2
  rw [size_alloc, size_alloc] at B3
  have M0 : MsAt (((w.alloc (.cells #[.string ⟨#[1, 97, 0]⟩, .int .i64 1, .int .i64 1] 42)).alloc (.cells #[.string ⟨#[1, 97, 0]⟩, .int .i64 1, .int .i64 1, .int .i64 5, .string ⟨#[97, 98, 99, 100]⟩] 44)).alloc (.cells #[.int .i64 7, .int .i64 33152, .slice (some ⟨w.heap.size, 0, none⟩) 1 1, .slice (some ⟨w.heap.size + 1, 0, none⟩) 1 1, .slice none 0 0, .slice none 0 0] 26)) (.agg #[.int .i64 7, .int .i64 33152, .slice (some ⟨w.heap.size, 0, none⟩) 1 1, .slice (some ⟨w.heap.size + 1, 0, none⟩) 1 1, .slice none 0 0, .slice none 0 0]) m0 := ⟨_, _, _, _, rfl, B1.row 3, B2.row 5, ReadRow.nil, ReadRow.nil⟩
  clear B1 B2
  replace B3 := hide B3
  replace K := hide K
  replace M0 := hide M0
  go_enter Try.func9, Try.ntmps9
  go_wp2_with fail
  generalize ((w.alloc (.cells #[.string ⟨#[1, 97, 0]⟩, .int .i64 1, .int .i64 1] 42)).alloc (.cells #[.string ⟨#[1, 97, 0]⟩, .int .i64 1, .int .i64 1, .int .i64 5, .string ⟨#[97, 98, 99, 100]⟩] 44)).alloc (.cells #[.int .i64 7, .int .i64 33152, .slice (some ⟨w.heap.size, 0, none⟩) 1 1, .slice (some ⟨w.heap.size + 1, 0, none⟩) 1 1, .slice none 0 0, .slice none 0 0] 26) = W at *
  generalize w.heap.size = G at *
  refine (Encode_any _ m0 _ M0.out m0_fine).mono ?_
  rintro e w1 ⟨rfl, k1⟩
  replace K := hide (K.out.trans k1)
  replace B3 := hide (B3.out.keeps k1)
  replace M0 := hide (M0.out.keeps k1)
  clear k1
  rw [l_enc]
  have lc := l_cat
  go_wp2_with fail
  refine (Decode_any _ _ (small8 _ (by decide))).mono ?_
  intro e w2 hE
  obtain ⟨aq2, kq2, aa2, ka2, an2, kn2, ar2, kr2, rfl, Mx2, k1⟩ := live_decM hE l_dec
  clear hE
  replace K := hide (K.out.trans k1)
  replace B3 := hide (B3.out.keeps k1)
  replace M0 := hide (M0.out.keeps k1)
  clear k1
  replace Mx2 := hide Mx2
  have k1 := (Keeps.refl w2).alloc (.cells #[.int .i64 7, .int .i64 33152, .slice aq2 1 kq2, .slice aa2 1 ka2, .slice an2 0 kn2, .slice ar2 0 kr2] 26)
  have Bx2 := hide (Blk.made w2 #[.int .i64 7, .int .i64 33152, .slice aq2 1 kq2, .slice aa2 1 ka2, .slice an2 0 kn2, .slice ar2 0 kr2] 26)
  replace K := hide (K.out.trans k1)
  replace B3 := hide (B3.out.keeps k1)
  replace M0 := hide (M0.out.keeps k1)
  replace Mx2 := hide (Mx2.out.keeps k1)
  clear k1
  go_wp2_with fail
  generalize w2.alloc (.cells #[.int .i64 7, .int .i64 33152, .slice aq2 1 kq2, .slice aa2 1 ka2, .slice an2 0 kn2, .slice ar2 0 kr2] 26) = W2 at *
  generalize w2.heap.size = G2 at *
  refine (Decode_any _ _ (small8 _ (by decide))).mono ?_
  intro e w3 hE
  obtain ⟨aq3, kq3, aa3, ka3, an3, kn3, ar3, kr3, rfl, Mx3, k1⟩ := live_decN hE l_dec1
  clear hE
  replace K := hide (K.out.trans k1)
  replace B3 := hide (B3.out.keeps k1)
  replace M0 := hide (M0.out.keeps k1)
  replace Mx2 := hide (Mx2.out.keeps k1)
  replace Bx2 := hide (Bx2.out.keeps k1)
  clear k1
  replace Mx3 := hide Mx3
  have k1 := (Keeps.refl w3).alloc (.cells #[.int .i64 0, .int .i64 0, .slice aq3 0 kq3, .slice aa3 0 ka3, .slice an3 0 kn3, .slice ar3 0 kr3] 26)
  have Bx3 := hide (Blk.made w3 #[.int .i64 0, .int .i64 0, .slice aq3 0 kq3, .slice aa3 0 ka3, .slice an3 0 kn3, .slice ar3 0 kr3] 26)
  replace K := hide (K.out.trans k1)
  replace B3 := hide (B3.out.keeps k1)
  replace M0 := hide (M0.out.keeps k1)
  replace Mx2 := hide (Mx2.out.keeps k1)
  replace Bx2 := hide (Bx2.out.keeps k1)
  replace Mx3 := hide (Mx3.out.keeps k1)
  clear k1
  clear Mx3 Bx3
  go_wp2_with fail
  generalize w3.alloc (.cells #[.int .i64 0, .int .i64 0, .slice aq3 0 kq3, .slice aa3 0 ka3, .slice an3 0 kn3, .slice ar3 0 kr3] 26) = W3 at *
  generalize w3.heap.size = G3 at *
  refine (Decode_any _ _ (small8 _ (by decide))).mono ?_
  intro e w4 hE
  obtain ⟨aq4, kq4, aa4, ka4, an4, kn4, ar4, kr4, rfl, Mx4, k1⟩ := live_decN hE l_dec2
  clear hE
  replace K := hide (K.out.trans k1)
  replace B3 := hide (B3.out.keeps k1)
  replace M0 := hide (M0.out.keeps k1)
  replace Mx2 := hide (Mx2.out.keeps k1)
  replace Bx2 := hide (Bx2.out.keeps k1)
  clear k1
  replace Mx4 := hide Mx4
  have k1 := (Keeps.refl w4).alloc (.cells #[.int .i64 0, .int .i64 0, .slice aq4 0 kq4, .slice aa4 0 ka4, .slice an4 0 kn4, .slice ar4 0 kr4] 26)
  have Bx4 := hide (Blk.made w4 #[.int .i64 0, .int .i64 0, .slice aq4 0 kq4, .slice aa4 0 ka4, .slice an4 0 kn4, .slice ar4 0 kr4] 26)
  replace K := hide (K.out.trans k1)
  replace B3 := hide (B3.out.keeps k1)
  replace M0 := hide (M0.out.keeps k1)
  replace Mx2 := hide (Mx2.out.keeps k1)
  replace Bx2 := hide (Bx2.out.keeps k1)
  replace Mx4 := hide (Mx4.out.keeps k1)
  clear k1
  clear Mx4 Bx4
  go_wp2_with fail
  generalize w4.alloc (.cells #[.int .i64 0, .int .i64 0, .slice aq4 0 kq4, .slice aa4 0 ka4, .slice an4 0 kn4, .slice ar4 0 kr4] 26) = W4 at *
  generalize w4.heap.size = G4 at *
  refine (Head_any _ _ (small8 _ (by decide))).mono ?_
  rintro e w5 ⟨rfl, k1⟩
  replace K := hide (K.out.trans k1)
  replace B3 := hide (B3.out.keeps k1)
  replace M0 := hide (M0.out.keeps k1)
  replace Mx2 := hide (Mx2.out.keeps k1)
  replace Bx2 := hide (Bx2.out.keeps k1)
  clear k1
  rw [l_head]
  go_wp2_with fail
  refine (Decode_any _ _ (small8 _ (by decide))).mono ?_
  intro e w6 hE
  obtain ⟨aq6, kq6, aa6, ka6, an6, kn6, ar6, kr6, rfl, Mx6, k1⟩ := live_decN hE l_dec3
  clear hE
  replace K := hide (K.out.trans k1)
  replace B3 := hide (B3.out.keeps k1)
  replace M0 := hide (M0.out.keeps k1)
  replace Mx2 := hide (Mx2.out.keeps k1)
  replace Bx2 := hide (Bx2.out.keeps k1)
  clear k1
  replace Mx6 := hide Mx6
  have k1 := (Keeps.refl w6).alloc (.cells #[.int .i64 0, .int .i64 0, .slice aq6 0 kq6, .slice aa6 0 ka6, .slice an6 0 kn6, .slice ar6 0 kr6] 26)
  have Bx6 := hide (Blk.made w6 #[.int .i64 0, .int .i64 0, .slice aq6 0 kq6, .slice aa6 0 ka6, .slice an6 0 kn6, .slice ar6 0 kr6] 26)
  replace K := hide (K.out.trans k1)
  replace B3 := hide (B3.out.keeps k1)
  replace M0 := hide (M0.out.keeps k1)
  replace Mx2 := hide (Mx2.out.keeps k1)
  replace Bx2 := hide (Bx2.out.keeps k1)
  replace Mx6 := hide (Mx6.out.keeps k1)
  clear k1
  obtain ⟨x0, x1, x2, x3, x4, x5, x6⟩ := B3.out.six6
  obtain ⟨y0, y1, y2, y3, y4, y5, y6⟩ := Bx2.out.six6
  obtain ⟨z0, z1, z2, z3, z4, z5, z6⟩ := Bx6.out.six6
  go_wp2_with fail
  generalize w6.alloc (.cells #[.int .i64 0, .int .i64 0, .slice aq6 0 kq6, .slice aa6 0 ka6, .slice an6 0 kn6, .slice ar6 0 kr6] 26) = W6 at *
  generalize w6.heap.size = G6 at *
  refine (Same_any _ _ m0 m0 _ Mx2.out M0.out m0_fine.lens m0_fine.lens).mono ?_
  rintro e wz ⟨rfl, k1⟩
  replace K := hide (K.out.trans k1)
  replace B3 := hide (B3.out.keeps k1)
  replace M0 := hide (M0.out.keeps k1)
  replace Mx2 := hide (Mx2.out.keeps k1)
  replace Bx2 := hide (Bx2.out.keeps k1)
  replace Mx6 := hide (Mx6.out.keeps k1)
  replace Bx6 := hide (Bx6.out.keeps k1)
  clear k1
  clear x0 x1 x2 x3 x4 x5 x6 y0 y1 y2 y3 y4 y5 y6 z0 z1 z2 z3 z4 z5 z6
  rw [decide_eq_true rfl]
  obtain ⟨x0, x1, x2, x3, x4, x5, x6⟩ := B3.out.six6
  obtain ⟨y0, y1, y2, y3, y4, y5, y6⟩ := Bx2.out.six6
  obtain ⟨z0, z1, z2, z3, z4, z5, z6⟩ := Bx6.out.six6
  go_wp2_with fail
  refine (Same_any _ _ noMs noMs _ Mx6.out (msBare _ 0) (no_fine 0).lens (no_fine 0).lens).mono ?_
  rintro e wz ⟨rfl, k1⟩
  replace K := hide (K.out.trans k1)
  replace B3 := hide (B3.out.keeps k1)
  replace M0 := hide (M0.out.keeps k1)
  replace Mx2 := hide (Mx2.out.keeps k1)
  replace Bx2 := hide (Bx2.out.keeps k1)
  replace Mx6 := hide (Mx6.out.keeps k1)
  replace Bx6 := hide (Bx6.out.keeps k1)
  clear k1
  clear x0 x1 x2 x3 x4 x5 x6 y0 y1 y2 y3 y4 y5 y6 z0 z1 z2 z3 z4 z5 z6
  rw [decide_eq_true rfl]
  obtain ⟨x0, x1, x2, x3, x4, x5, x6⟩ := B3.out.six6
  obtain ⟨y0, y1, y2, y3, y4, y5, y6⟩ := Bx2.out.six6
  obtain ⟨z0, z1, z2, z3, z4, z5, z6⟩ := Bx6.out.six6
  go_wp2_with fail
  refine (Check_any _ m0 _ M0.out m0_fine).mono ?_
  rintro e wz ⟨rfl, k1⟩
  replace K := hide (K.out.trans k1)
  replace B3 := hide (B3.out.keeps k1)
  replace M0 := hide (M0.out.keeps k1)
  replace Mx2 := hide (Mx2.out.keeps k1)
  replace Bx2 := hide (Bx2.out.keeps k1)
  replace Mx6 := hide (Mx6.out.keeps k1)
  replace Bx6 := hide (Bx6.out.keeps k1)
  clear k1
  clear x0 x1 x2 x3 x4 x5 x6 y0 y1 y2 y3 y4 y5 y6 z0 z1 z2 z3 z4 z5 z6
  rw [l_ok]
  obtain ⟨x0, x1, x2, x3, x4, x5, x6⟩ := B3.out.six6
  obtain ⟨y0, y1, y2, y3, y4, y5, y6⟩ := Bx2.out.six6
  obtain ⟨z0, z1, z2, z3, z4, z5, z6⟩ := Bx6.out.six6
  go_wp2_with fail
  refine (Check_any _ ⟨-1, 0, [], [], [], []⟩ _ (msBare _ (-1)) (no_fine (-1))).mono ?_
  rintro e wz ⟨rfl, k1⟩
  replace K := hide (K.out.trans k1)
  replace B3 := hide (B3.out.keeps k1)
  replace M0 := hide (M0.out.keeps k1)
  replace Mx2 := hide (Mx2.out.keeps k1)
  replace Bx2 := hide (Bx2.out.keeps k1)
  replace Mx6 := hide (Mx6.out.keeps k1)
  replace Bx6 := hide (Bx6.out.keeps k1)
  clear k1
  clear x0 x1 x2 x3 x4 x5 x6 y0 y1 y2 y3 y4 y5 y6 z0 z1 z2 z3 z4 z5 z6
  rw [l_no]
  obtain ⟨x0, x1, x2, x3, x4, x5, x6⟩ := B3.out.six6
  obtain ⟨y0, y1, y2, y3, y4, y5, y6⟩ := Bx2.out.six6
  obtain ⟨z0, z1, z2, z3, z4, z5, z6⟩ := Bx6.out.six6
  go_wp2_with fail
  refine (Same_any _ _ m0 noMs _ M0.out Mx6.out m0_fine.lens (no_fine 0).lens).mono ?_
  rintro e wz ⟨rfl, k1⟩
  replace K := hide (K.out.trans k1)
  replace B3 := hide (B3.out.keeps k1)
  replace M0 := hide (M0.out.keeps k1)
  replace Mx2 := hide (Mx2.out.keeps k1)
  replace Bx2 := hide (Bx2.out.keeps k1)
  replace Mx6 := hide (Mx6.out.keeps k1)
  replace Bx6 := hide (Bx6.out.keeps k1)
  clear k1
  clear x0 x1 x2 x3 x4 x5 x6 y0 y1 y2 y3 y4 y5 y6 z0 z1 z2 z3 z4 z5 z6
  rw [show decide (m0 = noMs) = false by decide]
  obtain ⟨x0, x1, x2, x3, x4, x5, x6⟩ := B3.out.six6
  obtain ⟨y0, y1, y2, y3, y4, y5, y6⟩ := Bx2.out.six6
  obtain ⟨z0, z1, z2, z3, z4, z5, z6⟩ := Bx6.out.six6
  go_wp2
  go_ret
  exact ⟨rfl, K.out⟩
end Go.Proofs.Ytcohceggooockaa
