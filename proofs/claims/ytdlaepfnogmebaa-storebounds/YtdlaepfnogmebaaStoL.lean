/- The examples that the statements of layer 14 ask for answer true. No condition. -/
import Derived.Test.YtdlaepfnogmebaaStoW
import Derived.Test.YtdlaepfnogmebaaLruR
namespace Go.Proofs.Ytdlaepfnogmebaa
open Go.RowKit

def fA : St := ⟨⟨⟨#[1, 97, 0]⟩, 1, 1⟩, [[49, 49, 49, 49]], 5⟩
def fB : St := ⟨⟨⟨#[1, 98, 0]⟩, 1, 1⟩, [[49, 49, 49, 49]], 5⟩
def fC : St := ⟨⟨⟨#[1, 99, 0]⟩, 1, 1⟩, [[49, 49, 49, 49]], 5⟩
def fZ : St := ⟨⟨⟨#[1, 97, 0]⟩, 1, 1⟩, [[49, 49, 49, 49]], 0⟩
def f0 : Sto := ⟨2, [], 0⟩
def f1 : Sto := ⟨2, [⟨fA, 6, 5⟩], 1⟩
def f2 : Sto := ⟨2, [⟨fA, 6, 5⟩, ⟨fB, 6, 3⟩], 2⟩
def f4 : Sto := ⟨2, [⟨fB, 6, 3⟩, ⟨fA, 6, 5⟩], 2⟩
def f5 : Sto := ⟨2, [⟨fA, 6, 5⟩, ⟨fC, 7, 1⟩], 3⟩
def f6 : Sto := ⟨2, [⟨fC, 7, 1⟩], 4⟩
theorem u1 : Sto.putE f0 1 fA 5 = 0 ∧ Sto.put f0 1 fA 5 = f1 := by decide +kernel
theorem u2 : Sto.putE f1 1 fB 3 = 0 ∧ Sto.put f1 1 fB 3 = f2 := by decide +kernel
theorem u3 : Sto.putE f2 2 fA 4 = 10 ∧ Sto.put f2 2 fA 4 = f2 := by decide +kernel
theorem u4 : Sto.peek f2 2 fA.key = some ⟨fA, 6, 5⟩ ∧ Sto.get f2 2 fA.key = f4 := by decide +kernel
theorem u5 : Sto.putE f4 2 fC 1 = 0 ∧ Sto.put f4 2 fC 1 = f5 := by decide +kernel
theorem u6 : Sto.peek f5 2 fB.key = none ∧ Sto.peek f5 6 fA.key = none := by decide +kernel
theorem u7 : Sto.putE f5 2 fZ 5 = 14 ∧ Sto.put f5 2 fZ 5 = f5 := by decide +kernel
theorem u8 : Sto.has f5 fA.key = true ∧ (⟨f5.room, Sto.without f5.items fA.key, f5.changes + 1⟩ : Sto) = f6 ∧ Sto.has f6 fA.key = false := by decide +kernel
theorem u9 : Sto.putE f6 (-1) fA 5 = 1 := by decide +kernel
theorem fineA : StFine fA ∧ StIn fA := ⟨⟨by unfold maxLen; decide, by unfold maxLen; decide, by unfold maxLen; decide⟩, ⟨⟨by unfold maxLen; decide, by decide, by decide⟩, by decide⟩⟩
theorem fineB : StFine fB ∧ StIn fB := ⟨⟨by unfold maxLen; decide, by unfold maxLen; decide, by unfold maxLen; decide⟩, ⟨⟨by unfold maxLen; decide, by decide, by decide⟩, by decide⟩⟩
theorem fineC : StFine fC ∧ StIn fC := ⟨⟨by unfold maxLen; decide, by unfold maxLen; decide, by unfold maxLen; decide⟩, ⟨⟨by unfold maxLen; decide, by decide, by decide⟩, by decide⟩⟩
theorem fineZ : StFine fZ ∧ StIn fZ := ⟨⟨by unfold maxLen; decide, by unfold maxLen; decide, by unfold maxLen; decide⟩, ⟨⟨by unfold maxLen; decide, by decide, by decide⟩, by decide⟩⟩
/-- The one datum, as a slice. -/
theorem dataD {w : World} {D : Nat} (h : Blk w D #[.string ⟨#[49, 49, 49, 49]⟩] 9) : ReadS w (.slice (some ⟨D, 0, none⟩) 1 1) [[49, 49, 49, 49]] :=
  ReadS.mk (n := 1) rfl (fun i hi => by
    obtain rfl : i = 0 := by simpa using hi
    exact h.cell 0) (Nat.le_refl _)

set_option maxHeartbeats 16000000 in
set_option maxRecDepth 100000 in
theorem live14_any (w : World) : Calls Try.prog 11 #[] w fun e w' => e = .returned (.bool true) ∧ Keeps w w' := by
  go_enter Try.func11, Try.ntmps11
  go_wp2_with fail
  refine (New_yes 2 _ (by decide) (by decide)).mono ?_
  intro e w1 hE
  obtain ⟨p, m, rfl, hp, hm, hS, k1⟩ := hE
  have S := hide (show SAt noG w1 p m f0 from hS)
  have K := hide k1
  clear hS k1
  go_wp2_with fail
  refine (New_no 0 _ (by decide)).mono ?_
  rintro e w2 ⟨rfl, k1⟩
  replace S := hide (S.out.keeps k1)
  replace K := hide (K.out.trans k1)
  clear k1
  go_wp2_with fail
  refine (New_no 1001 _ (by decide)).mono ?_
  rintro e w3 ⟨rfl, k1⟩
  replace S := hide (S.out.keeps k1)
  replace K := hide (K.out.trans k1)
  clear k1

  have BD := (((Blk.made w3 #[.string ⟨#[49, 49, 49, 49]⟩] 9).alloc (.cells #[.string ⟨#[1, 97, 0]⟩, .int .i64 1, .int .i64 1, .slice (some ⟨w3.heap.size, 0, none⟩) 1 1, .int .i64 5] 35)).alloc (.cells #[.string ⟨#[1, 98, 0]⟩, .int .i64 1, .int .i64 1, .slice (some ⟨w3.heap.size, 0, none⟩) 1 1, .int .i64 5] 35)).alloc (.cells #[.string ⟨#[1, 99, 0]⟩, .int .i64 1, .int .i64 1, .slice (some ⟨w3.heap.size, 0, none⟩) 1 1, .int .i64 5] 35)
  have BA := ((Blk.made (w3.alloc (.cells #[.string ⟨#[49, 49, 49, 49]⟩] 9)) #[.string ⟨#[1, 97, 0]⟩, .int .i64 1, .int .i64 1, .slice (some ⟨w3.heap.size, 0, none⟩) 1 1, .int .i64 5] 35).alloc (.cells #[.string ⟨#[1, 98, 0]⟩, .int .i64 1, .int .i64 1, .slice (some ⟨w3.heap.size, 0, none⟩) 1 1, .int .i64 5] 35)).alloc (.cells #[.string ⟨#[1, 99, 0]⟩, .int .i64 1, .int .i64 1, .slice (some ⟨w3.heap.size, 0, none⟩) 1 1, .int .i64 5] 35)
  have BB := (Blk.made ((w3.alloc (.cells #[.string ⟨#[49, 49, 49, 49]⟩] 9)).alloc (.cells #[.string ⟨#[1, 97, 0]⟩, .int .i64 1, .int .i64 1, .slice (some ⟨w3.heap.size, 0, none⟩) 1 1, .int .i64 5] 35)) #[.string ⟨#[1, 98, 0]⟩, .int .i64 1, .int .i64 1, .slice (some ⟨w3.heap.size, 0, none⟩) 1 1, .int .i64 5] 35).alloc (.cells #[.string ⟨#[1, 99, 0]⟩, .int .i64 1, .int .i64 1, .slice (some ⟨w3.heap.size, 0, none⟩) 1 1, .int .i64 5] 35)
  have BC := Blk.made (((w3.alloc (.cells #[.string ⟨#[49, 49, 49, 49]⟩] 9)).alloc (.cells #[.string ⟨#[1, 97, 0]⟩, .int .i64 1, .int .i64 1, .slice (some ⟨w3.heap.size, 0, none⟩) 1 1, .int .i64 5] 35)).alloc (.cells #[.string ⟨#[1, 98, 0]⟩, .int .i64 1, .int .i64 1, .slice (some ⟨w3.heap.size, 0, none⟩) 1 1, .int .i64 5] 35)) #[.string ⟨#[1, 99, 0]⟩, .int .i64 1, .int .i64 1, .slice (some ⟨w3.heap.size, 0, none⟩) 1 1, .int .i64 5] 35
  rw [size_allocG] at BA
  rw [size_allocG, size_allocG] at BB
  rw [size_allocG, size_allocG, size_allocG] at BC
  have K4 := ((((Keeps.refl w3).alloc (.cells #[.string ⟨#[49, 49, 49, 49]⟩] 9)).alloc (.cells #[.string ⟨#[1, 97, 0]⟩, .int .i64 1, .int .i64 1, .slice (some ⟨w3.heap.size, 0, none⟩) 1 1, .int .i64 5] 35)).alloc (.cells #[.string ⟨#[1, 98, 0]⟩, .int .i64 1, .int .i64 1, .slice (some ⟨w3.heap.size, 0, none⟩) 1 1, .int .i64 5] 35)).alloc (.cells #[.string ⟨#[1, 99, 0]⟩, .int .i64 1, .int .i64 1, .slice (some ⟨w3.heap.size, 0, none⟩) 1 1, .int .i64 5] 35)
  have hpl := S.out.lt
  have hX : Hid ((w3.heap.size ≠ p ∧ w3.heap.size ≠ m) ∧ (w3.heap.size + 1 ≠ p ∧ w3.heap.size + 1 ≠ m) ∧ (w3.heap.size + 1 + 1 ≠ p ∧ w3.heap.size + 1 + 1 ≠ m) ∧ (w3.heap.size + 1 + 1 + 1 ≠ p ∧ w3.heap.size + 1 + 1 + 1 ≠ m)) := by rw [Hid]; omega
  replace S := hide (S.out.keeps K4)
  have KX := hide (KB.of (p := p) (m := m) K4)
  replace BD := hide BD
  replace BA := hide BA
  replace BB := hide BB
  replace BC := hide BC
  clear K4
  go_upto_region 9 with fail
  generalize (((w3.alloc (.cells #[.string ⟨#[49, 49, 49, 49]⟩] 9)).alloc (.cells #[.string ⟨#[1, 97, 0]⟩, .int .i64 1, .int .i64 1, .slice (some ⟨w3.heap.size, 0, none⟩) 1 1, .int .i64 5] 35)).alloc (.cells #[.string ⟨#[1, 98, 0]⟩, .int .i64 1, .int .i64 1, .slice (some ⟨w3.heap.size, 0, none⟩) 1 1, .int .i64 5] 35)).alloc (.cells #[.string ⟨#[1, 99, 0]⟩, .int .i64 1, .int .i64 1, .slice (some ⟨w3.heap.size, 0, none⟩) 1 1, .int .i64 5] 35) = W0 at *
  have hl3 : Hid (w.heap.size ≤ w3.heap.size) := K.out.size
  generalize w3.heap.size + 1 + 1 + 1 = c at *
  generalize w3.heap.size + 1 + 1 = b at *
  generalize w3.heap.size + 1 = a at *
  generalize hD : w3.heap.size = D at BD BA BB BC hX ⊢
  replace hD := hide hD
  obtain ⟨a0, a1, a2, a3, a4, _⟩ := BA.out.five_cells
  go_wp2_with fail
  refine (Put_any p m f0 1 _ fA 5 _ ⟨_, rfl, dataD BD.out⟩ fineA.1 fineA.2 S.out (by decide) (by decide)).mono ?_
  intro e w5 hE
  obtain ⟨rfl, hS, kb⟩ := hE
  rw [u1.2] at hS
  rw [u1.1]
  replace S := hide hS
  clear hS a0 a1 a2 a3 a4
  replace BD := hide (BD.out.kb hX.out.1.1 hX.out.1.2 kb)
  replace BA := hide (BA.out.kb hX.out.2.1.1 hX.out.2.1.2 kb)
  replace BB := hide (BB.out.kb hX.out.2.2.1.1 hX.out.2.2.1.2 kb)
  replace BC := hide (BC.out.kb hX.out.2.2.2.1 hX.out.2.2.2.2 kb)
  replace KX := hide (KX.out.trans kb)
  clear kb
  obtain ⟨b0, b1, b2, b3, b4, _⟩ := BB.out.five_cells
  go_wp2_with fail
  refine (Put_any p m f1 1 _ fB 3 _ ⟨_, rfl, dataD BD.out⟩ fineB.1 fineB.2 S.out (by decide) (by decide)).mono ?_
  intro e w6 hE
  obtain ⟨rfl, hS, kb⟩ := hE
  rw [u2.2] at hS
  rw [u2.1]
  replace S := hide hS
  clear hS b0 b1 b2 b3 b4
  replace BD := hide (BD.out.kb hX.out.1.1 hX.out.1.2 kb)
  replace BA := hide (BA.out.kb hX.out.2.1.1 hX.out.2.1.2 kb)
  replace BB := hide (BB.out.kb hX.out.2.2.1.1 hX.out.2.2.1.2 kb)
  replace BC := hide (BC.out.kb hX.out.2.2.2.1 hX.out.2.2.2.2 kb)
  replace KX := hide (KX.out.trans kb)
  clear kb
  obtain ⟨a0, a1, a2, a3, a4, _⟩ := BA.out.five_cells
  go_wp2_with fail
  refine (Put_any p m f2 2 _ fA 4 _ ⟨_, rfl, dataD BD.out⟩ fineA.1 fineA.2 S.out (by decide) (by decide)).mono ?_
  intro e w7 hE
  obtain ⟨rfl, hS, kb⟩ := hE
  rw [u3.2] at hS
  rw [u3.1]
  replace S := hide hS
  clear hS a0 a1 a2 a3 a4
  replace BD := hide (BD.out.kb hX.out.1.1 hX.out.1.2 kb)
  replace BA := hide (BA.out.kb hX.out.2.1.1 hX.out.2.1.2 kb)
  replace BB := hide (BB.out.kb hX.out.2.2.1.1 hX.out.2.2.1.2 kb)
  replace BC := hide (BC.out.kb hX.out.2.2.2.1 hX.out.2.2.2.2 kb)
  replace KX := hide (KX.out.trans kb)
  clear kb
  obtain ⟨a0, a1, a2, a3, a4, _⟩ := BA.out.five_cells
  go_wp2_with fail
  refine (Get_any p m f2 2 fA.key _ S.out fineA.2.1).mono ?_
  intro e w8 hE
  rw [u4.1, u4.2] at hE
  obtain ⟨vi, rfl, ht, hS, kb⟩ := hE
  obtain ⟨vd, rfl, od⟩ := ht
  obtain ⟨va, vc, rfl⟩ := od.form
  clear od
  replace S := hide hS
  clear hS a0 a1 a2 a3 a4
  unfold itV
  simp only [Option.isSome_some]
  replace BD := hide (BD.out.kb hX.out.1.1 hX.out.1.2 kb)
  replace BA := hide (BA.out.kb hX.out.2.1.1 hX.out.2.1.2 kb)
  replace BB := hide (BB.out.kb hX.out.2.2.1.1 hX.out.2.2.1.2 kb)
  replace BC := hide (BC.out.kb hX.out.2.2.2.1 hX.out.2.2.2.2 kb)
  replace KX := hide (KX.out.trans kb)
  clear kb
  generalize (fA.ds.map tv).length = vl at *
  have BX := hide (Blk.made w8 #[.string fA.key.n, .int .i64 fA.key.t, .int .i64 fA.key.c, .slice va vl vc, .int .i64 fA.ttl, .int .i64 6, .int .i64 5] 46)
  have hXX : Hid (w8.heap.size ≠ p ∧ w8.heap.size ≠ m) := by have := S.out.lt; rw [Hid]; omega
  replace BD := hide (BD.out.alloc (.cells #[.string fA.key.n, .int .i64 fA.key.t, .int .i64 fA.key.c, .slice va vl vc, .int .i64 fA.ttl, .int .i64 6, .int .i64 5] 46))
  replace BA := hide (BA.out.alloc (.cells #[.string fA.key.n, .int .i64 fA.key.t, .int .i64 fA.key.c, .slice va vl vc, .int .i64 fA.ttl, .int .i64 6, .int .i64 5] 46))
  replace BB := hide (BB.out.alloc (.cells #[.string fA.key.n, .int .i64 fA.key.t, .int .i64 fA.key.c, .slice va vl vc, .int .i64 fA.ttl, .int .i64 6, .int .i64 5] 46))
  replace BC := hide (BC.out.alloc (.cells #[.string fA.key.n, .int .i64 fA.key.t, .int .i64 fA.key.c, .slice va vl vc, .int .i64 fA.ttl, .int .i64 6, .int .i64 5] 46))
  replace S := hide (S.out.keeps ((Keeps.refl _).alloc (.cells #[.string fA.key.n, .int .i64 fA.key.t, .int .i64 fA.key.c, .slice va vl vc, .int .i64 fA.ttl, .int .i64 6, .int .i64 5] 46)))
  replace KX := hide (KX.out.trans (KB.of ((Keeps.refl _).alloc (.cells #[.string fA.key.n, .int .i64 fA.key.t, .int .i64 fA.key.c, .slice va vl vc, .int .i64 fA.ttl, .int .i64 6, .int .i64 5] 46))))
  go_upto_region 13 with fail
  generalize w8.alloc (.cells #[.string fA.key.n, .int .i64 fA.key.t, .int .i64 fA.key.c, .slice va vl vc, .int .i64 fA.ttl, .int .i64 6, .int .i64 5] 46) = W1 at *
  generalize w8.heap.size = X at *
  obtain ⟨c0, c1, c2, c3, c4, _⟩ := BC.out.five_cells
  go_wp2_with fail
  refine (Put_any p m f4 2 _ fC 1 _ ⟨_, rfl, dataD BD.out⟩ fineC.1 fineC.2 S.out (by decide) (by decide)).mono ?_
  intro e w9 hE
  obtain ⟨rfl, hS, kb⟩ := hE
  rw [u5.2] at hS
  rw [u5.1]
  replace S := hide hS
  clear hS c0 c1 c2 c3 c4
  replace BD := hide (BD.out.kb hX.out.1.1 hX.out.1.2 kb)
  replace BA := hide (BA.out.kb hX.out.2.1.1 hX.out.2.1.2 kb)
  replace BB := hide (BB.out.kb hX.out.2.2.1.1 hX.out.2.2.1.2 kb)
  replace BC := hide (BC.out.kb hX.out.2.2.2.1 hX.out.2.2.2.2 kb)
  replace BX := hide (BX.out.kb hXX.out.1 hXX.out.2 kb)
  replace KX := hide (KX.out.trans kb)
  clear kb
  obtain ⟨b0, b1, b2, b3, b4, _⟩ := BB.out.five_cells
  go_wp2_with fail
  refine (Peek_any p m f5 2 fB.key _ S.out fineB.2.1).mono ?_
  intro e w10 hE
  rw [u6.1] at hE
  obtain ⟨vi, rfl, ht, k1⟩ := hE
  obtain rfl : vi = itV noIt (.slice none 0 0) := ht
  clear b0 b1 b2 b3 b4
  unfold itV noIt noSt noQn
  simp only [Option.isSome_none]
  have kb := KB.of (p := p) (m := m) k1
  replace S := hide (S.out.keeps k1)
  replace BD := hide (BD.out.kb hX.out.1.1 hX.out.1.2 kb)
  replace BA := hide (BA.out.kb hX.out.2.1.1 hX.out.2.1.2 kb)
  replace BB := hide (BB.out.kb hX.out.2.2.1.1 hX.out.2.2.1.2 kb)
  replace BC := hide (BC.out.kb hX.out.2.2.2.1 hX.out.2.2.2.2 kb)
  replace BX := hide (BX.out.kb hXX.out.1 hXX.out.2 kb)
  replace KX := hide (KX.out.trans kb)
  clear kb k1
  replace BD := hide (BD.out.alloc (.cells #[.string ⟨#[]⟩, .int .i64 0, .int .i64 0, .slice none 0 0, .int .i64 0, .int .i64 0, .int .i64 0] 46))
  replace BA := hide (BA.out.alloc (.cells #[.string ⟨#[]⟩, .int .i64 0, .int .i64 0, .slice none 0 0, .int .i64 0, .int .i64 0, .int .i64 0] 46))
  replace BB := hide (BB.out.alloc (.cells #[.string ⟨#[]⟩, .int .i64 0, .int .i64 0, .slice none 0 0, .int .i64 0, .int .i64 0, .int .i64 0] 46))
  replace BC := hide (BC.out.alloc (.cells #[.string ⟨#[]⟩, .int .i64 0, .int .i64 0, .slice none 0 0, .int .i64 0, .int .i64 0, .int .i64 0] 46))
  replace BX := hide (BX.out.alloc (.cells #[.string ⟨#[]⟩, .int .i64 0, .int .i64 0, .slice none 0 0, .int .i64 0, .int .i64 0, .int .i64 0] 46))
  replace S := hide (S.out.keeps ((Keeps.refl _).alloc (.cells #[.string ⟨#[]⟩, .int .i64 0, .int .i64 0, .slice none 0 0, .int .i64 0, .int .i64 0, .int .i64 0] 46)))
  replace KX := hide (KX.out.trans (KB.of ((Keeps.refl _).alloc (.cells #[.string ⟨#[]⟩, .int .i64 0, .int .i64 0, .slice none 0 0, .int .i64 0, .int .i64 0, .int .i64 0] 46))))
  go_upto_region 15 with fail
  generalize w10.alloc (.cells #[.string ⟨#[]⟩, .int .i64 0, .int .i64 0, .slice none 0 0, .int .i64 0, .int .i64 0, .int .i64 0] 46) = W2 at *
  obtain ⟨a0, a1, a2, a3, a4, _⟩ := BA.out.five_cells
  go_wp2_with fail
  refine (Peek_any p m f5 6 fA.key _ S.out fineA.2.1).mono ?_
  intro e w11 hE
  rw [u6.2] at hE
  obtain ⟨vi, rfl, ht, k1⟩ := hE
  obtain rfl : vi = itV noIt (.slice none 0 0) := ht
  clear a0 a1 a2 a3 a4
  unfold itV noIt noSt noQn
  simp only [Option.isSome_none]
  have kb := KB.of (p := p) (m := m) k1
  replace S := hide (S.out.keeps k1)
  replace BD := hide (BD.out.kb hX.out.1.1 hX.out.1.2 kb)
  replace BA := hide (BA.out.kb hX.out.2.1.1 hX.out.2.1.2 kb)
  replace BB := hide (BB.out.kb hX.out.2.2.1.1 hX.out.2.2.1.2 kb)
  replace BC := hide (BC.out.kb hX.out.2.2.2.1 hX.out.2.2.2.2 kb)
  replace BX := hide (BX.out.kb hXX.out.1 hXX.out.2 kb)
  replace KX := hide (KX.out.trans kb)
  clear kb k1
  replace BD := hide (BD.out.alloc (.cells #[.string ⟨#[]⟩, .int .i64 0, .int .i64 0, .slice none 0 0, .int .i64 0, .int .i64 0, .int .i64 0] 46))
  replace BA := hide (BA.out.alloc (.cells #[.string ⟨#[]⟩, .int .i64 0, .int .i64 0, .slice none 0 0, .int .i64 0, .int .i64 0, .int .i64 0] 46))
  replace BB := hide (BB.out.alloc (.cells #[.string ⟨#[]⟩, .int .i64 0, .int .i64 0, .slice none 0 0, .int .i64 0, .int .i64 0, .int .i64 0] 46))
  replace BC := hide (BC.out.alloc (.cells #[.string ⟨#[]⟩, .int .i64 0, .int .i64 0, .slice none 0 0, .int .i64 0, .int .i64 0, .int .i64 0] 46))
  replace BX := hide (BX.out.alloc (.cells #[.string ⟨#[]⟩, .int .i64 0, .int .i64 0, .slice none 0 0, .int .i64 0, .int .i64 0, .int .i64 0] 46))
  replace S := hide (S.out.keeps ((Keeps.refl _).alloc (.cells #[.string ⟨#[]⟩, .int .i64 0, .int .i64 0, .slice none 0 0, .int .i64 0, .int .i64 0, .int .i64 0] 46)))
  replace KX := hide (KX.out.trans (KB.of ((Keeps.refl _).alloc (.cells #[.string ⟨#[]⟩, .int .i64 0, .int .i64 0, .slice none 0 0, .int .i64 0, .int .i64 0, .int .i64 0] 46))))
  go_upto_region 16 with fail
  generalize w11.alloc (.cells #[.string ⟨#[]⟩, .int .i64 0, .int .i64 0, .slice none 0 0, .int .i64 0, .int .i64 0, .int .i64 0] 46) = W3 at *
  obtain ⟨a0, a1, a2, a3, a4, _⟩ := BA.out.five_cells
  go_upto_region 18 with fail
  have BZ := hide (Blk.made W3 #[.string ⟨#[1, 97, 0]⟩, .int .i64 1, .int .i64 1, .slice (some ⟨D, 0, none⟩) 1 1, .int .i64 0] 35)
  have hZ : Hid (W3.heap.size ≠ p ∧ W3.heap.size ≠ m) := by have := S.out.lt; rw [Hid]; omega
  replace BD := hide (BD.out.alloc (.cells #[.string ⟨#[1, 97, 0]⟩, .int .i64 1, .int .i64 1, .slice (some ⟨D, 0, none⟩) 1 1, .int .i64 0] 35))
  replace BA := hide (BA.out.alloc (.cells #[.string ⟨#[1, 97, 0]⟩, .int .i64 1, .int .i64 1, .slice (some ⟨D, 0, none⟩) 1 1, .int .i64 0] 35))
  replace BB := hide (BB.out.alloc (.cells #[.string ⟨#[1, 97, 0]⟩, .int .i64 1, .int .i64 1, .slice (some ⟨D, 0, none⟩) 1 1, .int .i64 0] 35))
  replace BC := hide (BC.out.alloc (.cells #[.string ⟨#[1, 97, 0]⟩, .int .i64 1, .int .i64 1, .slice (some ⟨D, 0, none⟩) 1 1, .int .i64 0] 35))
  replace BX := hide (BX.out.alloc (.cells #[.string ⟨#[1, 97, 0]⟩, .int .i64 1, .int .i64 1, .slice (some ⟨D, 0, none⟩) 1 1, .int .i64 0] 35))
  replace S := hide (S.out.keeps ((Keeps.refl _).alloc (.cells #[.string ⟨#[1, 97, 0]⟩, .int .i64 1, .int .i64 1, .slice (some ⟨D, 0, none⟩) 1 1, .int .i64 0] 35)))
  replace KX := hide (KX.out.trans (KB.of ((Keeps.refl _).alloc (.cells #[.string ⟨#[1, 97, 0]⟩, .int .i64 1, .int .i64 1, .slice (some ⟨D, 0, none⟩) 1 1, .int .i64 0] 35))))
  generalize W3.alloc (.cells #[.string ⟨#[1, 97, 0]⟩, .int .i64 1, .int .i64 1, .slice (some ⟨D, 0, none⟩) 1 1, .int .i64 0] 35) = W4 at *
  generalize W3.heap.size = Z at *
  clear a0 a1 a2 a3 a4
  obtain ⟨z0, z1, z2, z3, z4, _⟩ := BZ.out.five_cells
  go_wp2_with fail
  refine (Put_any p m f5 2 _ fZ 5 _ ⟨_, rfl, dataD BD.out⟩ fineZ.1 fineZ.2 S.out (by decide) (by decide)).mono ?_
  intro e w12 hE
  obtain ⟨rfl, hS, kb⟩ := hE
  rw [u7.2] at hS
  rw [u7.1]
  replace S := hide hS
  clear hS z0 z1 z2 z3 z4
  replace BD := hide (BD.out.kb hX.out.1.1 hX.out.1.2 kb)
  replace BA := hide (BA.out.kb hX.out.2.1.1 hX.out.2.1.2 kb)
  replace BB := hide (BB.out.kb hX.out.2.2.1.1 hX.out.2.2.1.2 kb)
  replace BC := hide (BC.out.kb hX.out.2.2.2.1 hX.out.2.2.2.2 kb)
  replace BX := hide (BX.out.kb hXX.out.1 hXX.out.2 kb)
  replace BZ := hide (BZ.out.kb hZ.out.1 hZ.out.2 kb)
  replace KX := hide (KX.out.trans kb)
  clear kb
  clear BZ hZ
  obtain ⟨⟨x0, x1, x2, x3, x4, x5, x6⟩, _, _⟩ := BX.out.seven
  go_wp2_with fail
  refine (Changes_any p m f5 _ S.out).mono ?_
  rintro e w13 ⟨rfl, rfl⟩
  rw [show f5.changes = 3 from rfl]
  go_wp2_with fail
  refine (Keys_any p m f5 _ S.out).mono ?_
  intro e w14 hE
  obtain ⟨vk, rfl, ok, k1⟩ := hE
  obtain ⟨ka, kc, rfl⟩ := ok.form
  rw [show (f5.keys.map qnL).length = 2 from rfl]
  clear ok x0 x1 x2 x3 x4 x5 x6
  have kb := KB.of (p := p) (m := m) k1
  replace S := hide (S.out.keeps k1)
  replace BD := hide (BD.out.kb hX.out.1.1 hX.out.1.2 kb)
  replace BA := hide (BA.out.kb hX.out.2.1.1 hX.out.2.1.2 kb)
  replace BB := hide (BB.out.kb hX.out.2.2.1.1 hX.out.2.2.1.2 kb)
  replace BC := hide (BC.out.kb hX.out.2.2.2.1 hX.out.2.2.2.2 kb)
  replace BX := hide (BX.out.kb hXX.out.1 hXX.out.2 kb)
  replace KX := hide (KX.out.trans kb)
  clear kb k1
  obtain ⟨a0, a1, a2, a3, a4, _⟩ := BA.out.five_cells
  go_wp2_with fail
  refine (Drop_some p m f5 fA.key _ S.out fineA.2.1 u8.1 (by decide)).mono ?_
  intro e w15 hE
  rw [u8.2.1] at hE
  obtain ⟨rfl, hS, kb⟩ := hE
  replace S := hide hS
  clear hS a0 a1 a2 a3 a4
  replace BD := hide (BD.out.kb hX.out.1.1 hX.out.1.2 kb)
  replace BA := hide (BA.out.kb hX.out.2.1.1 hX.out.2.1.2 kb)
  replace BB := hide (BB.out.kb hX.out.2.2.1.1 hX.out.2.2.1.2 kb)
  replace BC := hide (BC.out.kb hX.out.2.2.2.1 hX.out.2.2.2.2 kb)
  replace BX := hide (BX.out.kb hXX.out.1 hXX.out.2 kb)
  replace KX := hide (KX.out.trans kb)
  clear kb
  obtain ⟨a0, a1, a2, a3, a4, _⟩ := BA.out.five_cells
  go_wp2_with fail
  refine (Drop_none p m f6 fA.key _ S.out fineA.2.1 u8.2.2).mono ?_
  intro e w16 hE
  obtain ⟨rfl, hS, kb⟩ := hE
  replace S := hide hS
  clear hS a0 a1 a2 a3 a4
  replace BD := hide (BD.out.kb hX.out.1.1 hX.out.1.2 kb)
  replace BA := hide (BA.out.kb hX.out.2.1.1 hX.out.2.1.2 kb)
  replace BB := hide (BB.out.kb hX.out.2.2.1.1 hX.out.2.2.1.2 kb)
  replace BC := hide (BC.out.kb hX.out.2.2.2.1 hX.out.2.2.2.2 kb)
  replace BX := hide (BX.out.kb hXX.out.1 hXX.out.2 kb)
  replace KX := hide (KX.out.trans kb)
  clear kb
  go_wp2_with fail
  refine (Changes_any p m f6 _ S.out).mono ?_
  rintro e w17 ⟨rfl, rfl⟩
  rw [show f6.changes = 4 from rfl]
  obtain ⟨a0, a1, a2, a3, a4, _⟩ := BA.out.five_cells
  go_wp2_with fail
  refine (Put_any p m f6 (-1) _ fA 5 _ ⟨_, rfl, dataD BD.out⟩ fineA.1 fineA.2 S.out (by decide) (by decide)).mono ?_
  intro e w18 hE
  obtain ⟨rfl, hS, kb⟩ := hE
  rw [u9]
  replace S := hide hS
  clear hS a0 a1 a2 a3 a4
  replace BD := hide (BD.out.kb hX.out.1.1 hX.out.1.2 kb)
  replace BA := hide (BA.out.kb hX.out.2.1.1 hX.out.2.1.2 kb)
  replace BB := hide (BB.out.kb hX.out.2.2.1.1 hX.out.2.2.1.2 kb)
  replace BC := hide (BC.out.kb hX.out.2.2.2.1 hX.out.2.2.2.2 kb)
  replace BX := hide (BX.out.kb hXX.out.1 hXX.out.2 kb)
  replace KX := hide (KX.out.trans kb)
  clear kb
  have hw := hide (KX.out.below (B := w.heap.size) hp hm hl3.out)
  go_wp2
  go_ret
  exact ⟨rfl, Below.trans K.out hw.out⟩
end Go.Proofs.Ytdlaepfnogmebaa
