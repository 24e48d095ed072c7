/- What is looked for: that of its name, or else its own. No condition but lengths. -/
import Derived.Test.YtedcjkfiljjpiaaNgP
namespace Go.Proofs.Ytedcjkfiljjpiaa
open Go.RowKit

theorem TellNOk.below {w w' : World} {B : Nat} {oi : Option Ni} {vi : Value} (h : TellNOk w B oi vi) (k : Keeps w w') : TellNOk w' B oi vi := by
  cases oi with
  | none => exact h
  | some i =>
    obtain ⟨vd, h1, h2⟩ := h
    exact ⟨vd, h1, h2.below k⟩
theorem TellNOk.le {w : World} {B B' : Nat} {oi : Option Ni} {vi : Value} (h : TellNOk w B oi vi) (hb : B' ≤ B) : TellNOk w B' oi vi := by
  cases oi with
  | none => exact h
  | some i =>
    obtain ⟨vd, h1, h2⟩ := h
    exact ⟨vd, h1, h2.le hb⟩
theorem TellNOk.set10 {w : World} {B : Nat} {oi : Option Ni} {vi : Value} (h : TellNOk w B oi vi) {G : Nat} (hG : G < B) (u0 u1 u2 u3 u4 u5 u6 u7 u8 u9 : Value) : TellNOk (set10 w G u0 u1 u2 u3 u4 u5 u6 u7 u8 u9) B oi vi := by
  cases oi with
  | none =>
    have e : vi = niV noNi (.slice none 0 0) := h
    exact e
  | some i =>
    obtain ⟨vd, h1, h2⟩ := h
    exact ⟨vd, h1, h2.set10 hG _ _ _ _ _ _ _ _ _ _⟩
/-- What is told, as a value. -/
theorem TellNOk.form {w : World} {B : Nat} {oi : Option Ni} {vi : Value} (h : TellNOk w B oi vi) : ∃ x a n c, vi = niV x (.slice a n c) ∧ x = oi.getD noNi ∧ ReadS w (.slice a n c) x.soa.ds := by
  cases oi with
  | none => exact ⟨noNi, none, 0, 0, h, rfl, ReadS.none⟩
  | some i =>
    obtain ⟨vd, rfl, ho⟩ := h
    obtain ⟨a, c, rfl⟩ := ho.form
    exact ⟨i, _, _, _, rfl, rfl, readS_of_tv ho.read⟩

set_option maxHeartbeats 16000000 in
set_option maxRecDepth 100000 in
theorem Find_gen (pv : Value) (lv : Qn → Option Ni) (now : Int) (q : Qn) (w : World) (hq : QnFine q)
    (HL : ∀ (W : World) (k : Qn), Keeps w W → QnFine k → Calls Try.prog 46 #[pv, .int .i64 now, .agg #[.string k.n, .int .i64 k.t, .int .i64 k.c]] W fun e w' => LiveNEnd W (lv k) e w') :
    Calls Try.prog 17 #[pv, .int .i64 now, .agg #[.string q.n, .int .i64 q.t, .int .i64 q.c]] w fun e w' => LiveNEnd w ((lv ⟨q.n, 0, q.c⟩).or (lv q)) e w' := by
  have HL1 := hide (fun W (kk : Keeps w W) => HL W ⟨q.n, 0, q.c⟩ kk ⟨hq.1, ⟨(by show (-9223372036854775808 : Int) ≤ 0; omega), (by show (0 : Int) ≤ 9223372036854775807; omega)⟩, hq.2.2⟩)
  have HL2 := hide (fun W (kk : Keeps w W) => HL W q kk hq)
  generalize lv ⟨q.n, 0, q.c⟩ = o1 at *
  generalize lv q = o2 at *
  have HE1 : Hid (o1.isSome = true → ∀ vi W B, w.heap.size ≤ B → TellNOk W B o1 vi → Keeps w W → LiveNEnd w (o1.or o2) (.returned (.tuple #[vi, .bool true])) W) := fun h vi W B hB ht k => by
    cases o1 with
    | none => cases h
    | some i => exact ⟨_, rfl, ht.le hB, k⟩
  have HE0 : Hid (o1.isSome = false → ∀ vi W B, w.heap.size ≤ B → TellNOk W B o2 vi → Keeps w W → LiveNEnd w (o1.or o2) (.returned (.tuple #[vi, .bool o2.isSome])) W) := fun h vi W B hB ht k => by
    cases o1 with
    | none => exact ⟨_, rfl, ht.le hB, k⟩
    | some i => cases h
  generalize o1.or o2 = OI at *
  clear HL
  have B := hide ((Blk.made w #[.string q.n, .int .i64 q.t, .int .i64 q.c] 32).alloc (.cells #[.string ⟨#[]⟩, .int .i64 0, .int .i64 0, .bool false, .string ⟨#[]⟩, .int .i64 0, .int .i64 0, .slice none 0 0, .int .i64 0, .int .i64 0] 48))
  have R := Blk.made (w.alloc (.cells #[.string q.n, .int .i64 q.t, .int .i64 q.c] 32)) #[.string ⟨#[]⟩, .int .i64 0, .int .i64 0, .bool false, .string ⟨#[]⟩, .int .i64 0, .int .i64 0, .slice none 0 0, .int .i64 0, .int .i64 0] 48
  rw [size_allocG] at R
  replace R := hide R
  have K := hide (((Keeps.refl w).alloc (.cells #[.string q.n, .int .i64 q.t, .int .i64 q.c] 32)).alloc (.cells #[.string ⟨#[]⟩, .int .i64 0, .int .i64 0, .bool false, .string ⟨#[]⟩, .int .i64 0, .int .i64 0, .slice none 0 0, .int .i64 0, .int .i64 0] 48))
  go_enter Try.func17, Try.ntmps17
  go_upto_region 1 with fail
  have hsz : Hid (((w.alloc (.cells #[.string q.n, .int .i64 q.t, .int .i64 q.c] 32)).alloc (.cells #[.string ⟨#[]⟩, .int .i64 0, .int .i64 0, .bool false, .string ⟨#[]⟩, .int .i64 0, .int .i64 0, .slice none 0 0, .int .i64 0, .int .i64 0] 48)).heap.size = w.heap.size + 1 + 1) := by rw [Hid, size_allocG, size_allocG]
  generalize (w.alloc (.cells #[.string q.n, .int .i64 q.t, .int .i64 q.c] 32)).alloc (.cells #[.string ⟨#[]⟩, .int .i64 0, .int .i64 0, .bool false, .string ⟨#[]⟩, .int .i64 0, .int .i64 0, .slice none 0 0, .int .i64 0, .int .i64 0] 48) = W at *
  obtain ⟨b0, b1, b2⟩ := B.out.three.1
  have H := hide (Blk.made W #[.string q.n, .int .i64 q.t, .int .i64 q.c] 32)
  replace B := hide (B.out.alloc (.cells #[.string q.n, .int .i64 q.t, .int .i64 q.c] 32))
  replace R := hide (R.out.alloc (.cells #[.string q.n, .int .i64 q.t, .int .i64 q.c] 32))
  replace K := hide (K.out.alloc (.cells #[.string q.n, .int .i64 q.t, .int .i64 q.c] 32))
  go_upto_region 2 with fail
  have hsz2 : Hid ((W.alloc (.cells #[.string q.n, .int .i64 q.t, .int .i64 q.c] 32)).heap.size = w.heap.size + 1 + 1 + 1) := by rw [Hid, size_allocG, hsz.out]
  generalize W.alloc (.cells #[.string q.n, .int .i64 q.t, .int .i64 q.c] 32) = W1 at *
  have hle : Hid (w.heap.size ≤ W.heap.size ∧ w.heap.size ≤ w.heap.size + 1 ∧ w.heap.size ≤ w.heap.size) := by have := hsz.out; rw [Hid]; omega
  have hne : Hid (w.heap.size ≠ W.heap.size ∧ w.heap.size + 1 ≠ W.heap.size) := by have := hsz.out; rw [Hid]; omega
  have hG1 : Hid (w.heap.size + 1 < W1.heap.size ∧ w.heap.size < W1.heap.size) := by have := hsz.out; have := hsz2.out; rw [Hid]; omega
  clear hsz hsz2 b0 b1 b2
  generalize W.heap.size = HB at *
  generalize w.heap.size + 1 = G at *
  generalize hF : w.heap.size = F at B hne hG1 ⊢
  replace hF := hide hF
  obtain ⟨⟨h0, h1, h2⟩, ⟨_, f1, _⟩, _⟩ := H.out.three
  replace H := hide (show Blk (W1.setCell ⟨HB, 1, none⟩ (.int .i64 0)) HB #[.string q.n, .int .i64 0, .int .i64 q.c] 32 by have := H.out.set 1 (.int .i64 0); simpa using this)
  replace B := hide (B.out.other (a := ⟨HB, 1, none⟩) (Ne.symm hne.out.1) (.int .i64 0))
  replace R := hide (R.out.other (a := ⟨HB, 1, none⟩) (Ne.symm hne.out.2) (.int .i64 0))
  replace K := hide (K.out.setC ⟨HB, 1, none⟩ hle.out.1 (.int .i64 0))
  replace hG1 := hide (show G < (W1.setCell ⟨HB, 1, none⟩ (.int .i64 0)).heap.size ∧ F < (W1.setCell ⟨HB, 1, none⟩ (.int .i64 0)).heap.size by rw [World.size_setCell]; exact hG1.out)
  go_upto_region 3 with fail
  generalize W1.setCell ⟨HB, 1, none⟩ (.int .i64 0) = W2 at *
  clear h0 h1 h2 f1
  obtain ⟨h0, h1, h2⟩ := H.out.three.1
  have hwW : Hid (w.heap.size ≤ W2.heap.size) := K.out.size
  go_wp2_with fail
  refine (HL1.out _ K.out).mono ?_
  intro e w3 hE
  obtain ⟨vi, rfl, ht, k3⟩ := hE
  obtain ⟨x, xa, xn, xc, rfl, -, -⟩ := ht.form
  have T := hide (ht.below ((Keeps.refl w3).alloc (.cells #[.string x.key.n, .int .i64 x.key.t, .int .i64 x.key.c, .bool x.nx, .string x.soa.key.n, .int .i64 x.soa.key.t, .int .i64 x.soa.key.c, .slice xa xn xc, .int .i64 x.soa.ttl, .int .i64 x.u] 48)))
  have I := hide (Blk.made w3 #[.string x.key.n, .int .i64 x.key.t, .int .i64 x.key.c, .bool x.nx, .string x.soa.key.n, .int .i64 x.soa.key.t, .int .i64 x.soa.key.c, .slice xa xn xc, .int .i64 x.soa.ttl, .int .i64 x.u] 48)
  have hwle : Hid (w.heap.size ≤ w3.heap.size ∧ W2.heap.size ≤ w3.heap.size) := by have h1 := K.out.size; have h2 := k3.size; rw [Hid]; omega
  replace k3 := k3.alloc (.cells #[.string x.key.n, .int .i64 x.key.t, .int .i64 x.key.c, .bool x.nx, .string x.soa.key.n, .int .i64 x.soa.key.t, .int .i64 x.soa.key.c, .slice xa xn xc, .int .i64 x.soa.ttl, .int .i64 x.u] 48)
  replace B := hide (B.out.keeps k3)
  replace R := hide (R.out.keeps k3)
  replace K := hide (K.out.trans k3)
  have hI : Hid (F < w3.heap.size ∧ G < w3.heap.size ∧ w.heap.size ≤ w3.heap.size ∧ F ≠ w3.heap.size ∧ G ≠ w3.heap.size) := by
    have h1 := hwle.out
    have h2 := hG1.out
    have h4 := hF.out
    rw [Hid]
    omega
  clear k3 ht h0 h1 h2 H HL1
  unfold niV
  generalize hL1 : o1.isSome = L1 at *
  replace hL1 := hide hL1
  go_upto_region 4 with fail
  have hGX : Hid (w.heap.size ≤ W2.heap.size ∧ G < W2.heap.size) := ⟨hwW.out, hG1.out.1⟩
  have hGW : Hid (w.heap.size ≤ (w3.alloc (.cells #[.string x.key.n, .int .i64 x.key.t, .int .i64 x.key.c, .bool x.nx, .string x.soa.key.n, .int .i64 x.soa.key.t, .int .i64 x.soa.key.c, .slice xa xn xc, .int .i64 x.soa.ttl, .int .i64 x.u] 48)).heap.size ∧ G < (w3.alloc (.cells #[.string x.key.n, .int .i64 x.key.t, .int .i64 x.key.c, .bool x.nx, .string x.soa.key.n, .int .i64 x.soa.key.t, .int .i64 x.soa.key.c, .slice xa xn xc, .int .i64 x.soa.ttl, .int .i64 x.u] 48)).heap.size ∧ w3.heap.size < (w3.alloc (.cells #[.string x.key.n, .int .i64 x.key.t, .int .i64 x.key.c, .bool x.nx, .string x.soa.key.n, .int .i64 x.soa.key.t, .int .i64 x.soa.key.c, .slice xa xn xc, .int .i64 x.soa.ttl, .int .i64 x.u] 48)).heap.size) := by have h5 : (w3.alloc (.cells #[.string x.key.n, .int .i64 x.key.t, .int .i64 x.key.c, .bool x.nx, .string x.soa.key.n, .int .i64 x.soa.key.t, .int .i64 x.soa.key.c, .slice xa xn xc, .int .i64 x.soa.ttl, .int .i64 x.u] 48)).heap.size = w3.heap.size + 1 := size_allocG _ _; have h6 := hwle.out; have h7 := hI.out; rw [Hid]; omega
  generalize w3.alloc (.cells #[.string x.key.n, .int .i64 x.key.t, .int .i64 x.key.c, .bool x.nx, .string x.soa.key.n, .int .i64 x.soa.key.t, .int .i64 x.soa.key.c, .slice xa xn xc, .int .i64 x.soa.ttl, .int .i64 x.u] 48) = W4 at *
  generalize w3.heap.size = IB at *
  cases L1
  · obtain ⟨b0, b1, b2⟩ := B.out.three.1
    replace HE0 := hide (HE0.out rfl)
    clear HE1 hL1
    go_wp2_with fail
    refine (HL2.out _ K.out).mono ?_
    intro e w5 hE
    obtain ⟨vi, rfl, ht, k5⟩ := hE
    obtain ⟨y, ya, yn, yc, rfl, -, -⟩ := ht.form
    have hG5 := hide (hGW.out.2.1)
    replace I := hide (I.out.keeps k5)
    replace R := hide (R.out.keeps k5)
    replace K := hide (K.out.trans k5)
    clear k5 T b0 b1 b2 HL2
    unfold niV
    generalize hL2 : o2.isSome = L2 at *
    replace hL2 := hide hL2
    obtain ⟨i0, i1, i2, i3, i4, i5, i6, i7, i8, i9⟩ := I.out.ten.1
    obtain ⟨f0, f1, f2, f3, f4, f5, f6, f7, f8, f9⟩ := I.out.ten.2.1
    have I3 := hide (set10_blk I.out (.string y.key.n) (.int .i64 y.key.t) (.int .i64 y.key.c) (.bool y.nx) (.string y.soa.key.n) (.int .i64 y.soa.key.t) (.int .i64 y.soa.key.c) (.slice ya yn yc) (.int .i64 y.soa.ttl) (.int .i64 y.u))
    have R3 := hide (show Blk (set10 w5 IB (.string y.key.n) (.int .i64 y.key.t) (.int .i64 y.key.c) (.bool y.nx) (.string y.soa.key.n) (.int .i64 y.soa.key.t) (.int .i64 y.soa.key.c) (.slice ya yn yc) (.int .i64 y.soa.ttl) (.int .i64 y.u)) G _ _ from (heap_set10 _ _ _ _ _ _ _ _ _ _ _ _ _ hI.out.2.2.2.2).trans R.out)
    have K3 := hide (set10_keeps K.out hI.out.2.2.1 (.string y.key.n) (.int .i64 y.key.t) (.int .i64 y.key.c) (.bool y.nx) (.string y.soa.key.n) (.int .i64 y.soa.key.t) (.int .i64 y.soa.key.c) (.slice ya yn yc) (.int .i64 y.soa.ttl) (.int .i64 y.u))
    have T3 := hide (ht.set10 hGW.out.2.2 (.string y.key.n) (.int .i64 y.key.t) (.int .i64 y.key.c) (.bool y.nx) (.string y.soa.key.n) (.int .i64 y.soa.key.t) (.int .i64 y.soa.key.c) (.slice ya yn yc) (.int .i64 y.soa.ttl) (.int .i64 y.u))
    unfold set10 at I3 R3 K3 T3
    clear I R K ht
    go_upto_region 6 with fail
    generalize (((((((((w5.setCell ⟨IB, 0, none⟩ (.string y.key.n)).setCell ⟨IB, 1, none⟩ (.int .i64 y.key.t)).setCell ⟨IB, 2, none⟩ (.int .i64 y.key.c)).setCell ⟨IB, 3, none⟩ (.bool y.nx)).setCell ⟨IB, 4, none⟩ (.string y.soa.key.n)).setCell ⟨IB, 5, none⟩ (.int .i64 y.soa.key.t)).setCell ⟨IB, 6, none⟩ (.int .i64 y.soa.key.c)).setCell ⟨IB, 7, none⟩ (.slice ya yn yc)).setCell ⟨IB, 8, none⟩ (.int .i64 y.soa.ttl)).setCell ⟨IB, 9, none⟩ (.int .i64 y.u) = W6 at *
    clear i0 i1 i2 i3 i4 i5 i6 i7 i8 i9 f0 f1 f2 f3 f4 f5 f6 f7 f8 f9
    have hGB := hide (hGW.out.2.1)
    have I := I3
    have R := R3
    have K := K3
    have T := T3
    clear I3 R3 K3 T3
    obtain ⟨⟨i0, i1, i2, i3, i4, i5, i6, i7, i8, i9⟩, _, _⟩ := I.out.ten
    obtain ⟨⟨r0, r1, r2, r3, r4, r5, r6, r7, r8, r9⟩, ⟨g0, g1, g2, g3, g4, g5, g6, g7, g8, g9⟩, _⟩ := R.out.ten
    have R3 := hide (set10_blk R.out (.string y.key.n) (.int .i64 y.key.t) (.int .i64 y.key.c) (.bool y.nx) (.string y.soa.key.n) (.int .i64 y.soa.key.t) (.int .i64 y.soa.key.c) (.slice ya yn yc) (.int .i64 y.soa.ttl) (.int .i64 y.u))
    have K3 := hide (set10_keeps K.out hle.out.2.1 (.string y.key.n) (.int .i64 y.key.t) (.int .i64 y.key.c) (.bool y.nx) (.string y.soa.key.n) (.int .i64 y.soa.key.t) (.int .i64 y.soa.key.c) (.slice ya yn yc) (.int .i64 y.soa.ttl) (.int .i64 y.u))
    have T3 := hide (T.out.set10 hGB.out (.string y.key.n) (.int .i64 y.key.t) (.int .i64 y.key.c) (.bool y.nx) (.string y.soa.key.n) (.int .i64 y.soa.key.t) (.int .i64 y.soa.key.c) (.slice ya yn yc) (.int .i64 y.soa.ttl) (.int .i64 y.u))
    unfold set10 at R3 K3 T3
    clear R K T I
    go_wp2_with fail
    generalize (((((((((W6.setCell ⟨G, 0, none⟩ (.string y.key.n)).setCell ⟨G, 1, none⟩ (.int .i64 y.key.t)).setCell ⟨G, 2, none⟩ (.int .i64 y.key.c)).setCell ⟨G, 3, none⟩ (.bool y.nx)).setCell ⟨G, 4, none⟩ (.string y.soa.key.n)).setCell ⟨G, 5, none⟩ (.int .i64 y.soa.key.t)).setCell ⟨G, 6, none⟩ (.int .i64 y.soa.key.c)).setCell ⟨G, 7, none⟩ (.slice ya yn yc)).setCell ⟨G, 8, none⟩ (.int .i64 y.soa.ttl)).setCell ⟨G, 9, none⟩ (.int .i64 y.u) = W9 at *
    obtain ⟨⟨s0, s1, s2, s3, s4, s5, s6, s7, s8, s9⟩, _, _⟩ := R3.out.ten
    exact bodyPost_ret (v := .tuple #[niV y (.slice ya yn yc), .bool L2]) (by simp [results, Try.results17, go_sem, s0, s1, s2, s3, s4, s5, s6, s7, s8, s9, niV]) rfl (by exact HE0.out _ _ _ hGW.out.1 T3.out K3.out)
  · replace HE1 := hide (HE1.out rfl)
    clear HE0
    have hGB := hide (hGX.out.2)
    clear HL2 hL1
    obtain ⟨⟨i0, i1, i2, i3, i4, i5, i6, i7, i8, i9⟩, _, _⟩ := I.out.ten
    obtain ⟨⟨r0, r1, r2, r3, r4, r5, r6, r7, r8, r9⟩, ⟨g0, g1, g2, g3, g4, g5, g6, g7, g8, g9⟩, _⟩ := R.out.ten
    have R3 := hide (set10_blk R.out (.string x.key.n) (.int .i64 x.key.t) (.int .i64 x.key.c) (.bool x.nx) (.string x.soa.key.n) (.int .i64 x.soa.key.t) (.int .i64 x.soa.key.c) (.slice xa xn xc) (.int .i64 x.soa.ttl) (.int .i64 x.u))
    have K3 := hide (set10_keeps K.out hle.out.2.1 (.string x.key.n) (.int .i64 x.key.t) (.int .i64 x.key.c) (.bool x.nx) (.string x.soa.key.n) (.int .i64 x.soa.key.t) (.int .i64 x.soa.key.c) (.slice xa xn xc) (.int .i64 x.soa.ttl) (.int .i64 x.u))
    have T3 := hide (T.out.set10 hGB.out (.string x.key.n) (.int .i64 x.key.t) (.int .i64 x.key.c) (.bool x.nx) (.string x.soa.key.n) (.int .i64 x.soa.key.t) (.int .i64 x.soa.key.c) (.slice xa xn xc) (.int .i64 x.soa.ttl) (.int .i64 x.u))
    unfold set10 at R3 K3 T3
    clear R K T I
    go_wp2_with fail
    generalize (((((((((W4.setCell ⟨G, 0, none⟩ (.string x.key.n)).setCell ⟨G, 1, none⟩ (.int .i64 x.key.t)).setCell ⟨G, 2, none⟩ (.int .i64 x.key.c)).setCell ⟨G, 3, none⟩ (.bool x.nx)).setCell ⟨G, 4, none⟩ (.string x.soa.key.n)).setCell ⟨G, 5, none⟩ (.int .i64 x.soa.key.t)).setCell ⟨G, 6, none⟩ (.int .i64 x.soa.key.c)).setCell ⟨G, 7, none⟩ (.slice xa xn xc)).setCell ⟨G, 8, none⟩ (.int .i64 x.soa.ttl)).setCell ⟨G, 9, none⟩ (.int .i64 x.u) = W9 at *
    obtain ⟨⟨s0, s1, s2, s3, s4, s5, s6, s7, s8, s9⟩, _, _⟩ := R3.out.ten
    exact bodyPost_ret (v := .tuple #[niV x (.slice xa xn xc), .bool true]) (by simp [results, Try.results17, go_sem, s0, s1, s2, s3, s4, s5, s6, s7, s8, s9, niV]) rfl (HE1.out _ _ _ hGX.out.1 T3.out K3.out)
end Go.Proofs.Ytedcjkfiljjpiaa
