/- The law's examples: true. No condition. (Made by tools/genlive15.py.) -/
import Derived.Test.YtedcjkfiljjpiaaNgL
import Derived.Deep.RegionHeld3
namespace Go.Proofs.Ytedcjkfiljjpiaa
open Go.RowKit

set_option maxHeartbeats 16000000 in
set_option maxRecDepth 100000 in
theorem live15_any (w : World) : Calls Try.prog 9 #[] w fun e w' => e = .returned (.bool true) ∧ Keeps w w' := by
  go_enter Try.func9, Try.ntmps9
  go_wp2_with fail
  refine (NewN_yes 2 _ (by decide) (by decide)).mono ?_
  intro e w1 hE
  obtain ⟨p, m, rfl, hp, hm, hS, k1⟩ := hE
  have hpw : Hid (w.heap.size ≤ p ∧ w.heap.size ≤ m) := ⟨hp, hm⟩
  have S := hide (show NAt w1 p m ng0 from hS)
  have K := hide k1
  clear hS k1 hp hm
  go_wp2_with fail
  refine (NewN_no 0 _ (by decide)).mono ?_
  rintro e w2 ⟨rfl, k1⟩
  replace S := hide (S.out.keeps k1)
  replace K := hide (K.out.trans k1)
  clear k1
  have BA := hide ((Blk.made w2 #[.string ⟨#[1, 97, 0]⟩, .int .i64 1, .int .i64 1] 32).alloc (.cells #[.string ⟨#[1, 97, 0]⟩, .int .i64 2, .int .i64 1] 32))
  have BB := Blk.made (w2.alloc (.cells #[.string ⟨#[1, 97, 0]⟩, .int .i64 1, .int .i64 1] 32)) #[.string ⟨#[1, 97, 0]⟩, .int .i64 2, .int .i64 1] 32
  rw [size_allocG] at BB
  replace BB := hide BB
  have k4 := ((Keeps.refl w2).alloc (.cells #[.string ⟨#[1, 97, 0]⟩, .int .i64 1, .int .i64 1] 32)).alloc (.cells #[.string ⟨#[1, 97, 0]⟩, .int .i64 2, .int .i64 1] 32)
  have hX : Hid ((w2.heap.size ≠ p ∧ w2.heap.size ≠ m) ∧ (w2.heap.size + 1 ≠ p ∧ w2.heap.size + 1 ≠ m)) := by have := S.out.lt; rw [Hid]; omega
  replace S := hide (S.out.keeps k4)
  replace K := hide (K.out.trans k4)
  clear k4
  go_upto_region 6 with fail
  generalize (w2.alloc (.cells #[.string ⟨#[1, 97, 0]⟩, .int .i64 1, .int .i64 1] 32)).alloc (.cells #[.string ⟨#[1, 97, 0]⟩, .int .i64 2, .int .i64 1] 32) = W0 at *
  generalize w2.heap.size + 1 = b at *
  generalize w2.heap.size = a at *
  go_wp2_with fail
  refine (soa15_any 20 _).mono ?_
  intro e w3 hE
  obtain ⟨r1a, r1c, rfl, hR, k1⟩ := hE
  replace BA := hide (BA.out.keeps k1)
  replace BB := hide (BB.out.keeps k1)
  replace S := hide (S.out.keeps k1)
  replace K := hide (K.out.trans k1)
  have r1 := hide hR
  clear k1 hR
  go_wp2_with fail
  refine (Minimum_any _ (soaS 20) _ ⟨_, rfl, r1.out⟩ (soaFine 20)).mono ?_
  rintro e w4 ⟨rfl, k1⟩
  rw [ngu1.1, ngu1.2]
  replace BA := hide (BA.out.keeps k1)
  replace BB := hide (BB.out.keeps k1)
  replace S := hide (S.out.keeps k1)
  replace K := hide (K.out.trans k1)
  clear k1 r1
  go_wp2_with fail
  refine (Minimum_any _ noSt _ ⟨_, rfl, ReadS.none⟩ ⟨by show (0 : Nat) ≤ maxLen; omega, by show (0 : Nat) ≤ maxLen; omega, by simp [noSt]⟩).mono ?_
  rintro e w5 ⟨rfl, k1⟩
  rw [ngu2.1, ngu2.2]
  replace BA := hide (BA.out.keeps k1)
  replace BB := hide (BB.out.keeps k1)
  replace S := hide (S.out.keeps k1)
  replace K := hide (K.out.trans k1)
  clear k1
  go_upto_region 8 with fail
  have HT : Hid (∀ w', KB p m (w5).drew w' → (w'.cell? ⟨a, 0, none⟩ = some (.string ⟨#[1, 97, 0]⟩) ∧ w'.cell? ⟨a, 1, none⟩ = some (.int .i64 1) ∧ w'.cell? ⟨a, 2, none⟩ = some (.int .i64 1))) := fun w' k => ⟨(BA.out.drew.kb hX.out.1.1 hX.out.1.2 k).cell 0, (BA.out.drew.kb hX.out.1.1 hX.out.1.2 k).cell 1, (BA.out.drew.kb hX.out.1.1 hX.out.1.2 k).cell 2⟩
  have T := HT.out _ (KB.refl _ _ _)
  have KK := hide (Keeps.refl w5.drew)
  go_region_held3 (fun w' => (w'.cell? ⟨a, 0, none⟩ = some (.string ⟨#[1, 97, 0]⟩) ∧ w'.cell? ⟨a, 1, none⟩ = some (.int .i64 1) ∧ w'.cell? ⟨a, 2, none⟩ = some (.int .i64 1))) (exact T) ((first | (go_at_call 29; refine (soa15_any 7 _).mono ?_; intro e w6 hE; obtain ⟨ra, rc, rfl, hR, k1⟩ := hE; have r1 := hide hR; replace KK := hide (KK.out.trans k1); replace T := HT.out _ (KB.of KK.out); clear k1 hR) | (go_at_call 15; refine (PutN_any p m ng0 5 ngA false _ (soaS 7) _ ⟨_, rfl, r1.out⟩ (soaFine 7) ngFine.1 (S.out.keeps ((Keeps.refl w5).drew.trans KK.out)) (soaIn 7 (by decide)) (by decide) (by decide)).mono ?_; intro e w7 hE; obtain ⟨rfl, hS, kb⟩ := hE; have kbh := hide kb; replace T := HT.out _ ((KB.of KK.out).trans kb); clear kb)))
  rw [ngu3.2] at hS
  rw [ngu3.1]
  replace K := hide (show Keeps w w7 from Below.trans (K.out.drew.trans KK.out) (kbh.out.below hpw.out.1 hpw.out.2 (K.out.drew.trans KK.out).size))
  replace BA := hide ((BA.out.drew.keeps KK.out).kb hX.out.1.1 hX.out.1.2 kbh.out)
  replace BB := hide ((BB.out.drew.keeps KK.out).kb hX.out.2.1 hX.out.2.2 kbh.out)
  replace S := hide hS
  clear hS kbh T HT KK r1
  obtain ⟨q0, q1, q2⟩ := BA.out.three.1
  go_wp2_with fail
  refine (Find_any p m ng1 11 ngA _ S.out ngFine.1).mono ?_
  intro e w8 hE
  obtain ⟨vi, rfl, ht, k1⟩ := hE
  rw [ngu4] at ht
  rw [ngu4]
  obtain ⟨vd, rfl, ho⟩ := ht
  obtain ⟨xa, xc, rfl⟩ := ho.form
  generalize (List.map tv ngI1.soa.ds).length = xl at *
  clear ho
  rw [show niV ngI1 (.slice xa xl xc) = .agg #[.string ⟨#[1, 97, 0]⟩, .int .i64 1, .int .i64 1, .bool false, .string ⟨#[0]⟩, .int .i64 6, .int .i64 1, .slice xa xl xc, .int .i64 7, .int .i64 12] from rfl]
  replace BA := hide (BA.out.keeps k1)
  replace BB := hide (BB.out.keeps k1)
  replace S := hide (S.out.keeps k1)
  replace K := hide (K.out.trans k1)
  clear k1 q0 q1 q2
  have k1 := ((Keeps.refl w8).alloc (.cells #[.string ⟨#[1, 97, 0]⟩, .int .i64 1, .int .i64 1, .bool false, .string ⟨#[0]⟩, .int .i64 6, .int .i64 1, .slice xa xl xc, .int .i64 7, .int .i64 12] 48))
  have X := hide (Blk.made w8 #[.string ⟨#[1, 97, 0]⟩, .int .i64 1, .int .i64 1, .bool false, .string ⟨#[0]⟩, .int .i64 6, .int .i64 1, .slice xa xl xc, .int .i64 7, .int .i64 12] 48)
  have hx : Hid (w8.heap.size ≠ p ∧ w8.heap.size ≠ m) := by have := S.out.lt; rw [Hid]; omega
  replace BA := hide (BA.out.keeps k1)
  replace BB := hide (BB.out.keeps k1)
  replace S := hide (S.out.keeps k1)
  replace K := hide (K.out.trans k1)
  clear k1
  simp only [Option.isSome]
  go_upto_region 10 with fail
  generalize w8.alloc (.cells #[.string ⟨#[1, 97, 0]⟩, .int .i64 1, .int .i64 1, .bool false, .string ⟨#[0]⟩, .int .i64 6, .int .i64 1, .slice xa xl xc, .int .i64 7, .int .i64 12] 48) = W8 at *
  generalize w8.heap.size = xb at *
  obtain ⟨q0, q1, q2⟩ := BA.out.three.1
  go_wp2_with fail
  refine (Find_any p m ng1 12 ngA _ S.out ngFine.1).mono ?_
  intro e w9 hE
  obtain ⟨vi, rfl, ht, k1⟩ := hE
  rw [ngu5] at ht
  rw [ngu5]
  obtain rfl : vi = niV noNi (.slice none 0 0) := ht
  rw [show niV noNi (.slice none 0 0) = .agg #[.string ⟨#[]⟩, .int .i64 0, .int .i64 0, .bool false, .string ⟨#[]⟩, .int .i64 0, .int .i64 0, .slice none 0 0, .int .i64 0, .int .i64 0] from rfl]
  replace BA := hide (BA.out.keeps k1)
  replace BB := hide (BB.out.keeps k1)
  replace X := hide (X.out.keeps k1)
  replace S := hide (S.out.keeps k1)
  replace K := hide (K.out.trans k1)
  clear k1 q0 q1 q2
  have k1 := ((Keeps.refl w9).alloc (.cells #[.string ⟨#[]⟩, .int .i64 0, .int .i64 0, .bool false, .string ⟨#[]⟩, .int .i64 0, .int .i64 0, .slice none 0 0, .int .i64 0, .int .i64 0] 48))
  replace BA := hide (BA.out.keeps k1)
  replace BB := hide (BB.out.keeps k1)
  replace X := hide (X.out.keeps k1)
  replace S := hide (S.out.keeps k1)
  replace K := hide (K.out.trans k1)
  clear k1
  simp only [Option.isSome]
  go_upto_region 11 with fail
  generalize w9.alloc (.cells #[.string ⟨#[]⟩, .int .i64 0, .int .i64 0, .bool false, .string ⟨#[]⟩, .int .i64 0, .int .i64 0, .slice none 0 0, .int .i64 0, .int .i64 0] 48) = W9 at *
  generalize w9.heap.size = zz9 at *
  have hWW := hide (rfl : W9 = W9)
  clear hWW
  generalize hww : W9 = w10 at *
  clear hww
  go_upto_region 11 with fail
  have HT : Hid (∀ w', KB p m (w10).drew w' → (w'.cell? ⟨a, 0, none⟩ = some (.string ⟨#[1, 97, 0]⟩) ∧ w'.cell? ⟨a, 1, none⟩ = some (.int .i64 1) ∧ w'.cell? ⟨a, 2, none⟩ = some (.int .i64 1))) := fun w' k => ⟨(BA.out.drew.kb hX.out.1.1 hX.out.1.2 k).cell 0, (BA.out.drew.kb hX.out.1.1 hX.out.1.2 k).cell 1, (BA.out.drew.kb hX.out.1.1 hX.out.1.2 k).cell 2⟩
  have T := HT.out _ (KB.refl _ _ _)
  have KK := hide (Keeps.refl w10.drew)
  go_region_held3 (fun w' => (w'.cell? ⟨a, 0, none⟩ = some (.string ⟨#[1, 97, 0]⟩) ∧ w'.cell? ⟨a, 1, none⟩ = some (.int .i64 1) ∧ w'.cell? ⟨a, 2, none⟩ = some (.int .i64 1))) (exact T) ((first | (go_at_call 29; refine (soa15_any 20 _).mono ?_; intro e w11 hE; obtain ⟨ra, rc, rfl, hR, k1⟩ := hE; have r1 := hide hR; replace KK := hide (KK.out.trans k1); replace T := HT.out _ (KB.of KK.out); clear k1 hR) | (go_at_call 15; refine (PutN_any p m ng1 5 ngA true _ (soaS 20) _ ⟨_, rfl, r1.out⟩ (soaFine 20) ngFine.1 (S.out.keeps ((Keeps.refl w10).drew.trans KK.out)) (soaIn 20 (by decide)) (by decide) (by decide)).mono ?_; intro e w12 hE; obtain ⟨rfl, hS, kb⟩ := hE; have kbh := hide kb; replace T := HT.out _ ((KB.of KK.out).trans kb); clear kb)))
  rw [ngu6.2] at hS
  rw [ngu6.1]
  replace K := hide (show Keeps w w12 from Below.trans (K.out.drew.trans KK.out) (kbh.out.below hpw.out.1 hpw.out.2 (K.out.drew.trans KK.out).size))
  replace BA := hide ((BA.out.drew.keeps KK.out).kb hX.out.1.1 hX.out.1.2 kbh.out)
  replace BB := hide ((BB.out.drew.keeps KK.out).kb hX.out.2.1 hX.out.2.2 kbh.out)
  replace X := hide ((X.out.drew.keeps KK.out).kb hx.out.1 hx.out.2 kbh.out)
  replace S := hide hS
  clear hS kbh T HT KK r1
  obtain ⟨q0, q1, q2⟩ := BB.out.three.1
  go_wp2_with fail
  refine (Find_any p m ng2 13 ngB _ S.out ngFine.2).mono ?_
  intro e w13 hE
  obtain ⟨vi, rfl, ht, k1⟩ := hE
  rw [ngu7] at ht
  rw [ngu7]
  obtain ⟨vd, rfl, ho⟩ := ht
  obtain ⟨ya, yc, rfl⟩ := ho.form
  generalize (List.map tv ngI2.soa.ds).length = yl at *
  clear ho
  rw [show niV ngI2 (.slice ya yl yc) = .agg #[.string ⟨#[1, 97, 0]⟩, .int .i64 0, .int .i64 1, .bool true, .string ⟨#[0]⟩, .int .i64 6, .int .i64 1, .slice ya yl yc, .int .i64 20, .int .i64 14] from rfl]
  replace BA := hide (BA.out.keeps k1)
  replace BB := hide (BB.out.keeps k1)
  replace X := hide (X.out.keeps k1)
  replace S := hide (S.out.keeps k1)
  replace K := hide (K.out.trans k1)
  clear k1 q0 q1 q2
  have k1 := ((Keeps.refl w13).alloc (.cells #[.string ⟨#[1, 97, 0]⟩, .int .i64 0, .int .i64 1, .bool true, .string ⟨#[0]⟩, .int .i64 6, .int .i64 1, .slice ya yl yc, .int .i64 20, .int .i64 14] 48))
  have Y := hide (Blk.made w13 #[.string ⟨#[1, 97, 0]⟩, .int .i64 0, .int .i64 1, .bool true, .string ⟨#[0]⟩, .int .i64 6, .int .i64 1, .slice ya yl yc, .int .i64 20, .int .i64 14] 48)
  have hy : Hid (w13.heap.size ≠ p ∧ w13.heap.size ≠ m) := by have := S.out.lt; rw [Hid]; omega
  replace BA := hide (BA.out.keeps k1)
  replace BB := hide (BB.out.keeps k1)
  replace X := hide (X.out.keeps k1)
  replace S := hide (S.out.keeps k1)
  replace K := hide (K.out.trans k1)
  clear k1
  simp only [Option.isSome]
  go_upto_region 13 with fail
  generalize w13.alloc (.cells #[.string ⟨#[1, 97, 0]⟩, .int .i64 0, .int .i64 1, .bool true, .string ⟨#[0]⟩, .int .i64 6, .int .i64 1, .slice ya yl yc, .int .i64 20, .int .i64 14] 48) = W13 at *
  generalize w13.heap.size = yb at *
  have HC2 : Hid (∀ W, NAt W p m ng2 → Calls Try.prog 25 #[.pointer (some ⟨p, 0, none⟩)] W fun e w' => e = .returned (.int .i64 2) ∧ w' = W) := fun W h => ChangesN_any p m ng2 W h
  have HC3 : Hid (∀ W, NAt W p m ng3 → Calls Try.prog 25 #[.pointer (some ⟨p, 0, none⟩)] W fun e w' => e = .returned (.int .i64 3) ∧ w' = W) := fun W h => ChangesN_any p m ng3 W h
  have HKY : Hid (∀ W, NAt W p m ng2 → Calls Try.prog 23 #[.pointer (some ⟨p, 0, none⟩)] W fun e w' => ∃ ka kc, e = .returned (.slice ka 2 kc) ∧ Keeps W w') := fun W h => by
    refine (KeysN_any p m ng2 W h).mono ?_
    intro e v2 hE
    obtain ⟨vk, rfl, ok, k1⟩ := hE
    obtain ⟨ka, kc, rfl⟩ := ok.form
    exact ⟨ka, kc, rfl, k1⟩
  have HDR : Hid (∀ W, NAt W p m ng2 → Calls Try.prog 21 #[.pointer (some ⟨p, 0, none⟩), .string ⟨#[1, 97, 0]⟩] W fun e w' => e = .returned (.int .i64 2) ∧ NAt w' p m ng3 ∧ KB p m W w') := fun W h => by
    refine (DropN_any p m ng2 ⟨#[1, 97, 0]⟩ W h (by decide)).mono ?_
    intro e v3 hE
    obtain ⟨rfl, hS, kb⟩ := hE
    rw [ngu8.2] at hS
    rw [ngu8.1]
    exact ⟨rfl, hS, kb⟩
  have HP9 : Hid (∀ W v, StAt W v (soaS 0) → NAt W p m ng3 → Calls Try.prog 15 #[.pointer (some ⟨p, 0, none⟩), .int .i64 5, .agg #[.string ⟨#[1, 97, 0]⟩, .int .i64 1, .int .i64 1], .bool true, v] W fun e w' => e = .returned (.int .i64 14) ∧ NAt w' p m ng3 ∧ KB p m W w') := fun W v hv h => by
    refine (PutN_any p m ng3 5 ngA true v (soaS 0) W hv (soaFine 0) ngFine.1 h (soaIn 0 (by decide)) (by decide) (by decide)).mono ?_
    intro e v3 hE
    obtain ⟨rfl, hS, kb⟩ := hE
    rw [ngu9.2] at hS
    rw [ngu9.1]
    exact ⟨rfl, hS, kb⟩
  have HP10 : Hid (∀ W v, StAt W v (soaS 1) → NAt W p m ng3 → Calls Try.prog 15 #[.pointer (some ⟨p, 0, none⟩), .int .i64 (-1), .agg #[.string ⟨#[1, 97, 0]⟩, .int .i64 1, .int .i64 1], .bool true, v] W fun e w' => e = .returned (.int .i64 1) ∧ NAt w' p m ng3 ∧ KB p m W w') := fun W v hv h => by
    refine (PutN_any p m ng3 (-1) ngA true v (soaS 1) W hv (soaFine 1) ngFine.1 h (soaIn 1 (by decide)) (by decide) (by decide)).mono ?_
    intro e v3 hE
    obtain ⟨rfl, hS, kb⟩ := hE
    rw [ngu10.2] at hS
    rw [ngu10.1]
    exact ⟨rfl, hS, kb⟩
  have HT : Hid (∀ w', KB p m W13.drew w' → ((w'.cell? ⟨xb, 3, none⟩ = some (.bool false) ∧ w'.cell? ⟨xb, 9, none⟩ = some (.int .i64 12)) ∧ (w'.cell? ⟨yb, 3, none⟩ = some (.bool true) ∧ w'.cell? ⟨yb, 9, none⟩ = some (.int .i64 14) ∧ w'.cell? ⟨yb, 1, none⟩ = some (.int .i64 0)) ∧ (w'.cell? ⟨a, 0, none⟩ = some (.string ⟨#[1, 97, 0]⟩) ∧ w'.cell? ⟨a, 1, none⟩ = some (.int .i64 1) ∧ w'.cell? ⟨a, 2, none⟩ = some (.int .i64 1)))) := fun w' k => ⟨⟨(X.out.drew.kb hx.out.1 hx.out.2 k).cell 3, (X.out.drew.kb hx.out.1 hx.out.2 k).cell 9⟩, ⟨(Y.out.drew.kb hy.out.1 hy.out.2 k).cell 3, (Y.out.drew.kb hy.out.1 hy.out.2 k).cell 9, (Y.out.drew.kb hy.out.1 hy.out.2 k).cell 1⟩, ⟨(BA.out.drew.kb hX.out.1.1 hX.out.1.2 k).cell 0, (BA.out.drew.kb hX.out.1.1 hX.out.1.2 k).cell 1, (BA.out.drew.kb hX.out.1.1 hX.out.1.2 k).cell 2⟩⟩
  have T := HT.out _ (KB.refl _ _ _)
  have KX := hide (KB.refl p m W13.drew)
  replace S := hide (S.out.keeps (Keeps.refl W13).drew)
  have r1 : Hid True := trivial
  clear BA BB X Y
  simp only [List.append]
  refine wp_region_held_drew (S := fun w' => ((w'.cell? ⟨xb, 3, none⟩ = some (.bool false) ∧ w'.cell? ⟨xb, 9, none⟩ = some (.int .i64 12)) ∧ (w'.cell? ⟨yb, 3, none⟩ = some (.bool true) ∧ w'.cell? ⟨yb, 9, none⟩ = some (.int .i64 14) ∧ w'.cell? ⟨yb, 1, none⟩ = some (.int .i64 0)) ∧ (w'.cell? ⟨a, 0, none⟩ = some (.string ⟨#[1, 97, 0]⟩) ∧ w'.cell? ⟨a, 1, none⟩ = some (.int .i64 1) ∧ w'.cell? ⟨a, 2, none⟩ = some (.int .i64 1)))) (by kernel_rfl) ?_ (fun hHeld => ?_)
  · exact T
  refine wpAnyH_take (i := 0) (oi := { dst := some 61, op := Op.move (Operand.tmp 4), type := 3, pos := "law.go:41", after := #[], guard := none }) (v := ?va1) rfl (by kernel_rfl) (by kernel_rfl) (by kernel_rfl) (fun _ _ _ h => h) (Or.inl ⟨by rfl, ?ya1⟩) (by assumption) ?ra1
  case ya1 => intro w hSw; (try dsimp only at hSw); go_simp; try with_reducible rfl
  (try simp only [Act.put, List.setIfInBounds_toArray, List.set_cons_zero, List.set_cons_succ])
  refine wpAnyH_take (i := 1) (oi := { dst := some 62, op := Op.binOp BinOp.eql 3 (Operand.tmp 61) (Operand.const (Value.int IntKind.i64 9)) 3, type := 4, pos := "law.go:41", after := #[{ on := 0, ground := Ground.data }], guard := none }) (v := ?va2) rfl (by kernel_rfl) (by kernel_rfl) (by kernel_rfl) (fun _ _ _ h => h) (Or.inl ⟨by rfl, ?ya2⟩) (by assumption) ?ra2
  case ya2 => intro w hSw; (try dsimp only at hSw); go_simp; try with_reducible rfl
  (try simp only [Act.put, List.setIfInBounds_toArray, List.set_cons_zero, List.set_cons_succ])
  refine wpAnyH_take (i := 2) (oi := { dst := some 63, op := Op.move (Operand.tmp 62), type := 4, pos := "law.go:41", after := #[{ on := 1, ground := Ground.data }], guard := none }) (v := ?va3) rfl (by kernel_rfl) (by kernel_rfl) (by kernel_rfl) (fun _ _ _ h => h) (Or.inl ⟨by rfl, ?ya3⟩) (by assumption) ?ra3
  case ya3 => intro w hSw; (try dsimp only at hSw); go_simp; try with_reducible rfl
  (try simp only [Act.put, List.setIfInBounds_toArray, List.set_cons_zero, List.set_cons_succ])
  refine wpAnyH_take (i := 3) (oi := { dst := some 64, op := Op.move (Operand.tmp 5), type := 4, pos := "law.go:41", after := #[{ on := 2, ground := Ground.guard }], guard := some (2, true) }) (v := ?va4) rfl (by kernel_rfl) (by kernel_rfl) (by kernel_rfl) (fun _ _ _ h => h) (Or.inl ⟨by rfl, ?ya4⟩) (by assumption) ?ra4
  case ya4 => intro w hSw; (try dsimp only at hSw); go_simp; try with_reducible rfl
  (try simp only [Act.put, List.setIfInBounds_toArray, List.set_cons_zero, List.set_cons_succ])
  refine wpAnyH_take (i := 4) (oi := { dst := some 65, op := Op.pick (Operand.tmp 63) (Operand.tmp 64) (Operand.const (Value.bool false)), type := 4, pos := "law.go:41", after := #[{ on := 2, ground := Ground.data }, { on := 3, ground := Ground.data }], guard := none }) (v := ?va5) rfl (by kernel_rfl) (by kernel_rfl) (by kernel_rfl) (fun _ _ _ h => h) (Or.inl ⟨by rfl, ?ya5⟩) (by assumption) ?ra5
  case ya5 => intro w hSw; (try dsimp only at hSw); go_simp; try with_reducible rfl
  (try simp only [Act.put, List.setIfInBounds_toArray, List.set_cons_zero, List.set_cons_succ])
  refine wpAnyH_take (i := 5) (oi := { dst := some 66, op := Op.move (Operand.tmp 65), type := 4, pos := "law.go:41", after := #[{ on := 4, ground := Ground.data }, { on := 2, ground := Ground.chain }], guard := none }) (v := ?va6) rfl (by kernel_rfl) (by kernel_rfl) (by kernel_rfl) (fun _ _ _ h => h) (Or.inl ⟨by rfl, ?ya6⟩) (by assumption) ?ra6
  case ya6 => intro w hSw; (try dsimp only at hSw); go_simp; try with_reducible rfl
  (try simp only [Act.put, List.setIfInBounds_toArray, List.set_cons_zero, List.set_cons_succ])
  refine wpAnyH_take (i := 6) (oi := { dst := some 67, op := Op.move (Operand.tmp 7), type := 4, pos := "law.go:41", after := #[{ on := 5, ground := Ground.guard }], guard := some (5, true) }) (v := ?va7) rfl (by kernel_rfl) (by kernel_rfl) (by kernel_rfl) (fun _ _ _ h => h) (Or.inl ⟨by rfl, ?ya7⟩) (by assumption) ?ra7
  case ya7 => intro w hSw; (try dsimp only at hSw); go_simp; try with_reducible rfl
  (try simp only [Act.put, List.setIfInBounds_toArray, List.set_cons_zero, List.set_cons_succ])
  refine wpAnyH_take (i := 7) (oi := { dst := some 68, op := Op.unOp UnOp.not 4 (Operand.tmp 67), type := 4, pos := "law.go:41", after := #[{ on := 6, ground := Ground.data }, { on := 5, ground := Ground.guard }], guard := some (5, true) }) (v := ?va8) rfl (by kernel_rfl) (by kernel_rfl) (by kernel_rfl) (fun _ _ _ h => h) (Or.inl ⟨by rfl, ?ya8⟩) (by assumption) ?ra8
  case ya8 => intro w hSw; (try dsimp only at hSw); go_simp; try with_reducible rfl
  (try simp only [Act.put, List.setIfInBounds_toArray, List.set_cons_zero, List.set_cons_succ])
  refine wpAnyH_take (i := 8) (oi := { dst := some 69, op := Op.pick (Operand.tmp 66) (Operand.tmp 68) (Operand.const (Value.bool false)), type := 4, pos := "law.go:41", after := #[{ on := 5, ground := Ground.data }, { on := 7, ground := Ground.data }], guard := none }) (v := ?va9) rfl (by kernel_rfl) (by kernel_rfl) (by kernel_rfl) (fun _ _ _ h => h) (Or.inl ⟨by rfl, ?ya9⟩) (by assumption) ?ra9
  case ya9 => intro w hSw; (try dsimp only at hSw); go_simp; try with_reducible rfl
  (try simp only [Act.put, List.setIfInBounds_toArray, List.set_cons_zero, List.set_cons_succ])
  refine wpAnyH_take (i := 9) (oi := { dst := some 70, op := Op.move (Operand.tmp 69), type := 4, pos := "law.go:41", after := #[{ on := 8, ground := Ground.data }, { on := 5, ground := Ground.chain }], guard := none }) (v := ?va10) rfl (by kernel_rfl) (by kernel_rfl) (by kernel_rfl) (fun _ _ _ h => h) (Or.inl ⟨by rfl, ?ya10⟩) (by assumption) ?ra10
  case ya10 => intro w hSw; (try dsimp only at hSw); go_simp; try with_reducible rfl
  (try simp only [Act.put, List.setIfInBounds_toArray, List.set_cons_zero, List.set_cons_succ])
  refine wpAnyH_take (i := 10) (oi := { dst := some 71, op := Op.move (Operand.tmp 8), type := 40, pos := "law.go:41", after := #[{ on := 9, ground := Ground.guard }], guard := some (9, true) }) (v := ?va11) rfl (by kernel_rfl) (by kernel_rfl) (by kernel_rfl) (fun _ _ _ h => h) (Or.inl ⟨by rfl, ?ya11⟩) (by assumption) ?ra11
  case ya11 => intro w hSw; (try dsimp only at hSw); go_simp; try with_reducible rfl
  (try simp only [Act.put, List.setIfInBounds_toArray, List.set_cons_zero, List.set_cons_succ])
  refine wpAnyH_take (i := 11) (oi := { dst := some 72, op := Op.binOp BinOp.eql 40 (Operand.tmp 71) (Operand.const (Value.int IntKind.i64 0)) 40, type := 4, pos := "law.go:41", after := #[{ on := 10, ground := Ground.data }, { on := 9, ground := Ground.guard }], guard := some (9, true) }) (v := ?va12) rfl (by kernel_rfl) (by kernel_rfl) (by kernel_rfl) (fun _ _ _ h => h) (Or.inl ⟨by rfl, ?ya12⟩) (by assumption) ?ra12
  case ya12 => intro w hSw; (try dsimp only at hSw); go_simp; try with_reducible rfl
  (try simp only [Act.put, List.setIfInBounds_toArray, List.set_cons_zero, List.set_cons_succ])
  refine wpAnyH_take (i := 12) (oi := { dst := some 73, op := Op.pick (Operand.tmp 70) (Operand.tmp 72) (Operand.const (Value.bool false)), type := 4, pos := "law.go:41", after := #[{ on := 9, ground := Ground.data }, { on := 11, ground := Ground.data }], guard := none }) (v := ?va13) rfl (by kernel_rfl) (by kernel_rfl) (by kernel_rfl) (fun _ _ _ h => h) (Or.inl ⟨by rfl, ?ya13⟩) (by assumption) ?ra13
  case ya13 => intro w hSw; (try dsimp only at hSw); go_simp; try with_reducible rfl
  (try simp only [Act.put, List.setIfInBounds_toArray, List.set_cons_zero, List.set_cons_succ])
  refine wpAnyH_take (i := 13) (oi := { dst := some 74, op := Op.move (Operand.tmp 73), type := 4, pos := "law.go:41", after := #[{ on := 12, ground := Ground.data }, { on := 9, ground := Ground.chain }], guard := none }) (v := ?va14) rfl (by kernel_rfl) (by kernel_rfl) (by kernel_rfl) (fun _ _ _ h => h) (Or.inl ⟨by rfl, ?ya14⟩) (by assumption) ?ra14
  case ya14 => intro w hSw; (try dsimp only at hSw); go_simp; try with_reducible rfl
  (try simp only [Act.put, List.setIfInBounds_toArray, List.set_cons_zero, List.set_cons_succ])
  refine wpAnyH_take (i := 14) (oi := { dst := some 75, op := Op.move (Operand.tmp 10), type := 4, pos := "law.go:41", after := #[{ on := 13, ground := Ground.guard }], guard := some (13, true) }) (v := ?va15) rfl (by kernel_rfl) (by kernel_rfl) (by kernel_rfl) (fun _ _ _ h => h) (Or.inl ⟨by rfl, ?ya15⟩) (by assumption) ?ra15
  case ya15 => intro w hSw; (try dsimp only at hSw); go_simp; try with_reducible rfl
  (try simp only [Act.put, List.setIfInBounds_toArray, List.set_cons_zero, List.set_cons_succ])
  refine wpAnyH_take (i := 15) (oi := { dst := some 76, op := Op.pick (Operand.tmp 74) (Operand.tmp 75) (Operand.const (Value.bool false)), type := 4, pos := "law.go:41", after := #[{ on := 13, ground := Ground.data }, { on := 14, ground := Ground.data }], guard := none }) (v := ?va16) rfl (by kernel_rfl) (by kernel_rfl) (by kernel_rfl) (fun _ _ _ h => h) (Or.inl ⟨by rfl, ?ya16⟩) (by assumption) ?ra16
  case ya16 => intro w hSw; (try dsimp only at hSw); go_simp; try with_reducible rfl
  (try simp only [Act.put, List.setIfInBounds_toArray, List.set_cons_zero, List.set_cons_succ])
  refine wpAnyH_take (i := 16) (oi := { dst := some 77, op := Op.move (Operand.tmp 76), type := 4, pos := "law.go:41", after := #[{ on := 15, ground := Ground.data }, { on := 13, ground := Ground.chain }], guard := none }) (v := ?va17) rfl (by kernel_rfl) (by kernel_rfl) (by kernel_rfl) (fun _ _ _ h => h) (Or.inl ⟨by rfl, ?ya17⟩) (by assumption) ?ra17
  case ya17 => intro w hSw; (try dsimp only at hSw); go_simp; try with_reducible rfl
  (try simp only [Act.put, List.setIfInBounds_toArray, List.set_cons_zero, List.set_cons_succ])
  refine wpAnyH_take (i := 17) (oi := { dst := some 78, op := Op.fieldAddr 48 (Operand.tmp 9) 3, type := 0, pos := "law.go:41", after := #[{ on := 16, ground := Ground.guard }], guard := some (16, true) }) (v := ?va18) rfl (by kernel_rfl) (by kernel_rfl) (by kernel_rfl) (fun _ _ _ h => h) (Or.inl ⟨by rfl, ?ya18⟩) (by assumption) ?ra18
  case ya18 => intro w hSw; (try dsimp only at hSw); go_simp; try with_reducible rfl
  (try simp only [Act.put, List.setIfInBounds_toArray, List.set_cons_zero, List.set_cons_succ])
  refine wpAnyH_take (i := 18) (oi := { dst := some 79, op := Op.load 3 (Operand.tmp 78), type := 3, pos := "law.go:41", after := #[{ on := 17, ground := Ground.data }, { on := 16, ground := Ground.guard }], guard := some (16, true) }) (v := ?va19) rfl (by kernel_rfl) (by kernel_rfl) (by kernel_rfl) (fun _ _ _ h => h) (Or.inl ⟨by rfl, ?ya19⟩) (by assumption) ?ra19
  case ya19 => intro w hSw; (try dsimp only at hSw); go_simp; try with_reducible rfl
  (try simp only [Act.put, List.setIfInBounds_toArray, List.set_cons_zero, List.set_cons_succ])
  refine wpAnyH_take (i := 19) (oi := { dst := some 80, op := Op.binOp BinOp.eql 3 (Operand.tmp 79) (Operand.const (Value.int IntKind.i64 12)) 3, type := 4, pos := "law.go:41", after := #[{ on := 18, ground := Ground.data }, { on := 16, ground := Ground.guard }], guard := some (16, true) }) (v := ?va20) rfl (by kernel_rfl) (by kernel_rfl) (by kernel_rfl) (fun _ _ _ h => h) (Or.inl ⟨by rfl, ?ya20⟩) (by assumption) ?ra20
  case ya20 => intro w hSw; (try dsimp only at hSw); go_simp; try with_reducible rfl
  (try simp only [Act.put, List.setIfInBounds_toArray, List.set_cons_zero, List.set_cons_succ])
  refine wpAnyH_take (i := 20) (oi := { dst := some 81, op := Op.pick (Operand.tmp 77) (Operand.tmp 80) (Operand.const (Value.bool false)), type := 4, pos := "law.go:41", after := #[{ on := 16, ground := Ground.data }, { on := 19, ground := Ground.data }], guard := none }) (v := ?va21) rfl (by kernel_rfl) (by kernel_rfl) (by kernel_rfl) (fun _ _ _ h => h) (Or.inl ⟨by rfl, ?ya21⟩) (by assumption) ?ra21
  case ya21 => intro w hSw; (try dsimp only at hSw); go_simp; try with_reducible rfl
  (try simp only [Act.put, List.setIfInBounds_toArray, List.set_cons_zero, List.set_cons_succ])
  refine wpAnyH_take (i := 21) (oi := { dst := some 82, op := Op.move (Operand.tmp 81), type := 4, pos := "law.go:41", after := #[{ on := 20, ground := Ground.data }, { on := 16, ground := Ground.chain }], guard := none }) (v := ?va22) rfl (by kernel_rfl) (by kernel_rfl) (by kernel_rfl) (fun _ _ _ h => h) (Or.inl ⟨by rfl, ?ya22⟩) (by assumption) ?ra22
  case ya22 => intro w hSw; (try dsimp only at hSw); go_simp; try with_reducible rfl
  (try simp only [Act.put, List.setIfInBounds_toArray, List.set_cons_zero, List.set_cons_succ])
  refine wpAnyH_take (i := 22) (oi := { dst := some 83, op := Op.fieldAddr 48 (Operand.tmp 9) 1, type := 0, pos := "law.go:41", after := #[{ on := 21, ground := Ground.guard }], guard := some (21, true) }) (v := ?va23) rfl (by kernel_rfl) (by kernel_rfl) (by kernel_rfl) (fun _ _ _ h => h) (Or.inl ⟨by rfl, ?ya23⟩) (by assumption) ?ra23
  case ya23 => intro w hSw; (try dsimp only at hSw); go_simp; try with_reducible rfl
  (try simp only [Act.put, List.setIfInBounds_toArray, List.set_cons_zero, List.set_cons_succ])
  refine wpAnyH_take (i := 23) (oi := { dst := some 84, op := Op.load 4 (Operand.tmp 83), type := 4, pos := "law.go:41", after := #[{ on := 22, ground := Ground.data }, { on := 21, ground := Ground.guard }], guard := some (21, true) }) (v := ?va24) rfl (by kernel_rfl) (by kernel_rfl) (by kernel_rfl) (fun _ _ _ h => h) (Or.inl ⟨by rfl, ?ya24⟩) (by assumption) ?ra24
  case ya24 => intro w hSw; (try dsimp only at hSw); go_simp; try with_reducible rfl
  (try simp only [Act.put, List.setIfInBounds_toArray, List.set_cons_zero, List.set_cons_succ])
  refine wpAnyH_take (i := 24) (oi := { dst := some 85, op := Op.unOp UnOp.not 4 (Operand.tmp 84), type := 4, pos := "law.go:41", after := #[{ on := 23, ground := Ground.data }, { on := 21, ground := Ground.guard }], guard := some (21, true) }) (v := ?va25) rfl (by kernel_rfl) (by kernel_rfl) (by kernel_rfl) (fun _ _ _ h => h) (Or.inl ⟨by rfl, ?ya25⟩) (by assumption) ?ra25
  case ya25 => intro w hSw; (try dsimp only at hSw); go_simp; try with_reducible rfl
  (try simp only [Act.put, List.setIfInBounds_toArray, List.set_cons_zero, List.set_cons_succ])
  refine wpAnyH_take (i := 25) (oi := { dst := some 86, op := Op.pick (Operand.tmp 82) (Operand.tmp 85) (Operand.const (Value.bool false)), type := 4, pos := "law.go:41", after := #[{ on := 21, ground := Ground.data }, { on := 24, ground := Ground.data }], guard := none }) (v := ?va26) rfl (by kernel_rfl) (by kernel_rfl) (by kernel_rfl) (fun _ _ _ h => h) (Or.inl ⟨by rfl, ?ya26⟩) (by assumption) ?ra26
  case ya26 => intro w hSw; (try dsimp only at hSw); go_simp; try with_reducible rfl
  (try simp only [Act.put, List.setIfInBounds_toArray, List.set_cons_zero, List.set_cons_succ])
  refine wpAnyH_take (i := 26) (oi := { dst := some 87, op := Op.move (Operand.tmp 86), type := 4, pos := "law.go:41", after := #[{ on := 25, ground := Ground.data }, { on := 21, ground := Ground.chain }], guard := none }) (v := ?va27) rfl (by kernel_rfl) (by kernel_rfl) (by kernel_rfl) (fun _ _ _ h => h) (Or.inl ⟨by rfl, ?ya27⟩) (by assumption) ?ra27
  case ya27 => intro w hSw; (try dsimp only at hSw); go_simp; try with_reducible rfl
  (try simp only [Act.put, List.setIfInBounds_toArray, List.set_cons_zero, List.set_cons_succ])
  refine wpAnyH_take (i := 27) (oi := { dst := some 88, op := Op.move (Operand.tmp 12), type := 4, pos := "law.go:41", after := #[{ on := 26, ground := Ground.guard }], guard := some (26, true) }) (v := ?va28) rfl (by kernel_rfl) (by kernel_rfl) (by kernel_rfl) (fun _ _ _ h => h) (Or.inl ⟨by rfl, ?ya28⟩) (by assumption) ?ra28
  case ya28 => intro w hSw; (try dsimp only at hSw); go_simp; try with_reducible rfl
  (try simp only [Act.put, List.setIfInBounds_toArray, List.set_cons_zero, List.set_cons_succ])
  refine wpAnyH_take (i := 28) (oi := { dst := some 89, op := Op.unOp UnOp.not 4 (Operand.tmp 88), type := 4, pos := "law.go:41", after := #[{ on := 27, ground := Ground.data }, { on := 26, ground := Ground.guard }], guard := some (26, true) }) (v := ?va29) rfl (by kernel_rfl) (by kernel_rfl) (by kernel_rfl) (fun _ _ _ h => h) (Or.inl ⟨by rfl, ?ya29⟩) (by assumption) ?ra29
  case ya29 => intro w hSw; (try dsimp only at hSw); go_simp; try with_reducible rfl
  (try simp only [Act.put, List.setIfInBounds_toArray, List.set_cons_zero, List.set_cons_succ])
  refine wpAnyH_take (i := 29) (oi := { dst := some 90, op := Op.pick (Operand.tmp 87) (Operand.tmp 89) (Operand.const (Value.bool false)), type := 4, pos := "law.go:41", after := #[{ on := 26, ground := Ground.data }, { on := 28, ground := Ground.data }], guard := none }) (v := ?va30) rfl (by kernel_rfl) (by kernel_rfl) (by kernel_rfl) (fun _ _ _ h => h) (Or.inl ⟨by rfl, ?ya30⟩) (by assumption) ?ra30
  case ya30 => intro w hSw; (try dsimp only at hSw); go_simp; try with_reducible rfl
  (try simp only [Act.put, List.setIfInBounds_toArray, List.set_cons_zero, List.set_cons_succ])
  refine wpAnyH_take (i := 30) (oi := { dst := some 91, op := Op.move (Operand.tmp 90), type := 4, pos := "law.go:41", after := #[{ on := 29, ground := Ground.data }, { on := 26, ground := Ground.chain }], guard := none }) (v := ?va31) rfl (by kernel_rfl) (by kernel_rfl) (by kernel_rfl) (fun _ _ _ h => h) (Or.inl ⟨by rfl, ?ya31⟩) (by assumption) ?ra31
  case ya31 => intro w hSw; (try dsimp only at hSw); go_simp; try with_reducible rfl
  (try simp only [Act.put, List.setIfInBounds_toArray, List.set_cons_zero, List.set_cons_succ])
  refine wpAnyH_take (i := 31) (oi := { dst := some 92, op := Op.move (Operand.tmp 13), type := 40, pos := "law.go:41", after := #[{ on := 30, ground := Ground.guard }], guard := some (30, true) }) (v := ?va32) rfl (by kernel_rfl) (by kernel_rfl) (by kernel_rfl) (fun _ _ _ h => h) (Or.inl ⟨by rfl, ?ya32⟩) (by assumption) ?ra32
  case ya32 => intro w hSw; (try dsimp only at hSw); go_simp; try with_reducible rfl
  (try simp only [Act.put, List.setIfInBounds_toArray, List.set_cons_zero, List.set_cons_succ])
  refine wpAnyH_take (i := 32) (oi := { dst := some 93, op := Op.binOp BinOp.eql 40 (Operand.tmp 92) (Operand.const (Value.int IntKind.i64 0)) 40, type := 4, pos := "law.go:41", after := #[{ on := 31, ground := Ground.data }, { on := 30, ground := Ground.guard }], guard := some (30, true) }) (v := ?va33) rfl (by kernel_rfl) (by kernel_rfl) (by kernel_rfl) (fun _ _ _ h => h) (Or.inl ⟨by rfl, ?ya33⟩) (by assumption) ?ra33
  case ya33 => intro w hSw; (try dsimp only at hSw); go_simp; try with_reducible rfl
  (try simp only [Act.put, List.setIfInBounds_toArray, List.set_cons_zero, List.set_cons_succ])
  refine wpAnyH_take (i := 33) (oi := { dst := some 94, op := Op.pick (Operand.tmp 91) (Operand.tmp 93) (Operand.const (Value.bool false)), type := 4, pos := "law.go:41", after := #[{ on := 30, ground := Ground.data }, { on := 32, ground := Ground.data }], guard := none }) (v := ?va34) rfl (by kernel_rfl) (by kernel_rfl) (by kernel_rfl) (fun _ _ _ h => h) (Or.inl ⟨by rfl, ?ya34⟩) (by assumption) ?ra34
  case ya34 => intro w hSw; (try dsimp only at hSw); go_simp; try with_reducible rfl
  (try simp only [Act.put, List.setIfInBounds_toArray, List.set_cons_zero, List.set_cons_succ])
  refine wpAnyH_take (i := 34) (oi := { dst := some 95, op := Op.move (Operand.tmp 94), type := 4, pos := "law.go:41", after := #[{ on := 33, ground := Ground.data }, { on := 30, ground := Ground.chain }], guard := none }) (v := ?va35) rfl (by kernel_rfl) (by kernel_rfl) (by kernel_rfl) (fun _ _ _ h => h) (Or.inl ⟨by rfl, ?ya35⟩) (by assumption) ?ra35
  case ya35 => intro w hSw; (try dsimp only at hSw); go_simp; try with_reducible rfl
  (try simp only [Act.put, List.setIfInBounds_toArray, List.set_cons_zero, List.set_cons_succ])
  refine wpAnyH_take (i := 35) (oi := { dst := some 96, op := Op.move (Operand.tmp 15), type := 4, pos := "law.go:41", after := #[{ on := 34, ground := Ground.guard }], guard := some (34, true) }) (v := ?va36) rfl (by kernel_rfl) (by kernel_rfl) (by kernel_rfl) (fun _ _ _ h => h) (Or.inl ⟨by rfl, ?ya36⟩) (by assumption) ?ra36
  case ya36 => intro w hSw; (try dsimp only at hSw); go_simp; try with_reducible rfl
  (try simp only [Act.put, List.setIfInBounds_toArray, List.set_cons_zero, List.set_cons_succ])
  refine wpAnyH_take (i := 36) (oi := { dst := some 97, op := Op.pick (Operand.tmp 95) (Operand.tmp 96) (Operand.const (Value.bool false)), type := 4, pos := "law.go:41", after := #[{ on := 34, ground := Ground.data }, { on := 35, ground := Ground.data }], guard := none }) (v := ?va37) rfl (by kernel_rfl) (by kernel_rfl) (by kernel_rfl) (fun _ _ _ h => h) (Or.inl ⟨by rfl, ?ya37⟩) (by assumption) ?ra37
  case ya37 => intro w hSw; (try dsimp only at hSw); go_simp; try with_reducible rfl
  (try simp only [Act.put, List.setIfInBounds_toArray, List.set_cons_zero, List.set_cons_succ])
  refine wpAnyH_take (i := 37) (oi := { dst := some 98, op := Op.move (Operand.tmp 97), type := 4, pos := "law.go:41", after := #[{ on := 36, ground := Ground.data }, { on := 34, ground := Ground.chain }], guard := none }) (v := ?va38) rfl (by kernel_rfl) (by kernel_rfl) (by kernel_rfl) (fun _ _ _ h => h) (Or.inl ⟨by rfl, ?ya38⟩) (by assumption) ?ra38
  case ya38 => intro w hSw; (try dsimp only at hSw); go_simp; try with_reducible rfl
  (try simp only [Act.put, List.setIfInBounds_toArray, List.set_cons_zero, List.set_cons_succ])
  refine wpAnyH_take (i := 38) (oi := { dst := some 99, op := Op.fieldAddr 48 (Operand.tmp 14) 1, type := 0, pos := "law.go:41", after := #[{ on := 37, ground := Ground.guard }], guard := some (37, true) }) (v := ?va39) rfl (by kernel_rfl) (by kernel_rfl) (by kernel_rfl) (fun _ _ _ h => h) (Or.inl ⟨by rfl, ?ya39⟩) (by assumption) ?ra39
  case ya39 => intro w hSw; (try dsimp only at hSw); go_simp; try with_reducible rfl
  (try simp only [Act.put, List.setIfInBounds_toArray, List.set_cons_zero, List.set_cons_succ])
  refine wpAnyH_take (i := 39) (oi := { dst := some 100, op := Op.load 4 (Operand.tmp 99), type := 4, pos := "law.go:41", after := #[{ on := 38, ground := Ground.data }, { on := 37, ground := Ground.guard }], guard := some (37, true) }) (v := ?va40) rfl (by kernel_rfl) (by kernel_rfl) (by kernel_rfl) (fun _ _ _ h => h) (Or.inl ⟨by rfl, ?ya40⟩) (by assumption) ?ra40
  case ya40 => intro w hSw; (try dsimp only at hSw); go_simp; try with_reducible rfl
  (try simp only [Act.put, List.setIfInBounds_toArray, List.set_cons_zero, List.set_cons_succ])
  refine wpAnyH_take (i := 40) (oi := { dst := some 101, op := Op.pick (Operand.tmp 98) (Operand.tmp 100) (Operand.const (Value.bool false)), type := 4, pos := "law.go:41", after := #[{ on := 37, ground := Ground.data }, { on := 39, ground := Ground.data }], guard := none }) (v := ?va41) rfl (by kernel_rfl) (by kernel_rfl) (by kernel_rfl) (fun _ _ _ h => h) (Or.inl ⟨by rfl, ?ya41⟩) (by assumption) ?ra41
  case ya41 => intro w hSw; (try dsimp only at hSw); go_simp; try with_reducible rfl
  (try simp only [Act.put, List.setIfInBounds_toArray, List.set_cons_zero, List.set_cons_succ])
  refine wpAnyH_take (i := 41) (oi := { dst := some 102, op := Op.move (Operand.tmp 101), type := 4, pos := "law.go:41", after := #[{ on := 40, ground := Ground.data }, { on := 37, ground := Ground.chain }], guard := none }) (v := ?va42) rfl (by kernel_rfl) (by kernel_rfl) (by kernel_rfl) (fun _ _ _ h => h) (Or.inl ⟨by rfl, ?ya42⟩) (by assumption) ?ra42
  case ya42 => intro w hSw; (try dsimp only at hSw); go_simp; try with_reducible rfl
  (try simp only [Act.put, List.setIfInBounds_toArray, List.set_cons_zero, List.set_cons_succ])
  refine wpAnyH_take (i := 42) (oi := { dst := some 103, op := Op.fieldAddr 48 (Operand.tmp 14) 3, type := 0, pos := "law.go:41", after := #[{ on := 41, ground := Ground.guard }], guard := some (41, true) }) (v := ?va43) rfl (by kernel_rfl) (by kernel_rfl) (by kernel_rfl) (fun _ _ _ h => h) (Or.inl ⟨by rfl, ?ya43⟩) (by assumption) ?ra43
  case ya43 => intro w hSw; (try dsimp only at hSw); go_simp; try with_reducible rfl
  (try simp only [Act.put, List.setIfInBounds_toArray, List.set_cons_zero, List.set_cons_succ])
  refine wpAnyH_take (i := 43) (oi := { dst := some 104, op := Op.load 3 (Operand.tmp 103), type := 3, pos := "law.go:41", after := #[{ on := 42, ground := Ground.data }, { on := 41, ground := Ground.guard }], guard := some (41, true) }) (v := ?va44) rfl (by kernel_rfl) (by kernel_rfl) (by kernel_rfl) (fun _ _ _ h => h) (Or.inl ⟨by rfl, ?ya44⟩) (by assumption) ?ra44
  case ya44 => intro w hSw; (try dsimp only at hSw); go_simp; try with_reducible rfl
  (try simp only [Act.put, List.setIfInBounds_toArray, List.set_cons_zero, List.set_cons_succ])
  refine wpAnyH_take (i := 44) (oi := { dst := some 105, op := Op.binOp BinOp.eql 3 (Operand.tmp 104) (Operand.const (Value.int IntKind.i64 14)) 3, type := 4, pos := "law.go:41", after := #[{ on := 43, ground := Ground.data }, { on := 41, ground := Ground.guard }], guard := some (41, true) }) (v := ?va45) rfl (by kernel_rfl) (by kernel_rfl) (by kernel_rfl) (fun _ _ _ h => h) (Or.inl ⟨by rfl, ?ya45⟩) (by assumption) ?ra45
  case ya45 => intro w hSw; (try dsimp only at hSw); go_simp; try with_reducible rfl
  (try simp only [Act.put, List.setIfInBounds_toArray, List.set_cons_zero, List.set_cons_succ])
  refine wpAnyH_take (i := 45) (oi := { dst := some 106, op := Op.pick (Operand.tmp 102) (Operand.tmp 105) (Operand.const (Value.bool false)), type := 4, pos := "law.go:41", after := #[{ on := 41, ground := Ground.data }, { on := 44, ground := Ground.data }], guard := none }) (v := ?va46) rfl (by kernel_rfl) (by kernel_rfl) (by kernel_rfl) (fun _ _ _ h => h) (Or.inl ⟨by rfl, ?ya46⟩) (by assumption) ?ra46
  case ya46 => intro w hSw; (try dsimp only at hSw); go_simp; try with_reducible rfl
  (try simp only [Act.put, List.setIfInBounds_toArray, List.set_cons_zero, List.set_cons_succ])
  refine wpAnyH_take (i := 46) (oi := { dst := some 107, op := Op.move (Operand.tmp 106), type := 4, pos := "law.go:41", after := #[{ on := 45, ground := Ground.data }, { on := 41, ground := Ground.chain }], guard := none }) (v := ?va47) rfl (by kernel_rfl) (by kernel_rfl) (by kernel_rfl) (fun _ _ _ h => h) (Or.inl ⟨by rfl, ?ya47⟩) (by assumption) ?ra47
  case ya47 => intro w hSw; (try dsimp only at hSw); go_simp; try with_reducible rfl
  (try simp only [Act.put, List.setIfInBounds_toArray, List.set_cons_zero, List.set_cons_succ])
  refine wpAnyH_take (i := 47) (oi := { dst := some 108, op := Op.fieldAddr 48 (Operand.tmp 14) 0, type := 0, pos := "law.go:41", after := #[{ on := 46, ground := Ground.guard }], guard := some (46, true) }) (v := ?va48) rfl (by kernel_rfl) (by kernel_rfl) (by kernel_rfl) (fun _ _ _ h => h) (Or.inl ⟨by rfl, ?ya48⟩) (by assumption) ?ra48
  case ya48 => intro w hSw; (try dsimp only at hSw); go_simp; try with_reducible rfl
  (try simp only [Act.put, List.setIfInBounds_toArray, List.set_cons_zero, List.set_cons_succ])
  refine wpAnyH_take (i := 48) (oi := { dst := some 109, op := Op.fieldAddr 32 (Operand.tmp 108) 1, type := 0, pos := "law.go:41", after := #[{ on := 47, ground := Ground.data }, { on := 46, ground := Ground.guard }], guard := some (46, true) }) (v := ?va49) rfl (by kernel_rfl) (by kernel_rfl) (by kernel_rfl) (fun _ _ _ h => h) (Or.inl ⟨by rfl, ?ya49⟩) (by assumption) ?ra49
  case ya49 => intro w hSw; (try dsimp only at hSw); go_simp; try with_reducible rfl
  (try simp only [Act.put, List.setIfInBounds_toArray, List.set_cons_zero, List.set_cons_succ])
  refine wpAnyH_take (i := 49) (oi := { dst := some 110, op := Op.load 3 (Operand.tmp 109), type := 3, pos := "law.go:41", after := #[{ on := 48, ground := Ground.data }, { on := 46, ground := Ground.guard }], guard := some (46, true) }) (v := ?va50) rfl (by kernel_rfl) (by kernel_rfl) (by kernel_rfl) (fun _ _ _ h => h) (Or.inl ⟨by rfl, ?ya50⟩) (by assumption) ?ra50
  case ya50 => intro w hSw; (try dsimp only at hSw); go_simp; try with_reducible rfl
  (try simp only [Act.put, List.setIfInBounds_toArray, List.set_cons_zero, List.set_cons_succ])
  refine wpAnyH_take (i := 50) (oi := { dst := some 111, op := Op.binOp BinOp.eql 3 (Operand.tmp 110) (Operand.const (Value.int IntKind.i64 0)) 3, type := 4, pos := "law.go:41", after := #[{ on := 49, ground := Ground.data }, { on := 46, ground := Ground.guard }], guard := some (46, true) }) (v := ?va51) rfl (by kernel_rfl) (by kernel_rfl) (by kernel_rfl) (fun _ _ _ h => h) (Or.inl ⟨by rfl, ?ya51⟩) (by assumption) ?ra51
  case ya51 => intro w hSw; (try dsimp only at hSw); go_simp; try with_reducible rfl
  (try simp only [Act.put, List.setIfInBounds_toArray, List.set_cons_zero, List.set_cons_succ])
  refine wpAnyH_take (i := 51) (oi := { dst := some 112, op := Op.pick (Operand.tmp 107) (Operand.tmp 111) (Operand.const (Value.bool false)), type := 4, pos := "law.go:41", after := #[{ on := 46, ground := Ground.data }, { on := 50, ground := Ground.data }], guard := none }) (v := ?va52) rfl (by kernel_rfl) (by kernel_rfl) (by kernel_rfl) (fun _ _ _ h => h) (Or.inl ⟨by rfl, ?ya52⟩) (by assumption) ?ra52
  case ya52 => intro w hSw; (try dsimp only at hSw); go_simp; try with_reducible rfl
  (try simp only [Act.put, List.setIfInBounds_toArray, List.set_cons_zero, List.set_cons_succ])
  refine wpAnyH_take (i := 52) (oi := { dst := some 113, op := Op.move (Operand.tmp 112), type := 4, pos := "law.go:41", after := #[{ on := 51, ground := Ground.data }, { on := 46, ground := Ground.chain }], guard := none }) (v := ?va53) rfl (by kernel_rfl) (by kernel_rfl) (by kernel_rfl) (fun _ _ _ h => h) (Or.inl ⟨by rfl, ?ya53⟩) (by assumption) ?ra53
  case ya53 => intro w hSw; (try dsimp only at hSw); go_simp; try with_reducible rfl
  (try simp only [Act.put, List.setIfInBounds_toArray, List.set_cons_zero, List.set_cons_succ])
  refine wpAnyH_take (i := 53) (oi := { dst := some 114, op := Op.move (Operand.tmp 1), type := 25, pos := "law.go:41", after := #[{ on := 52, ground := Ground.guard }], guard := some (52, true) }) (v := ?va54) rfl (by kernel_rfl) (by kernel_rfl) (by kernel_rfl) (fun _ _ _ h => h) (Or.inl ⟨by rfl, ?ya54⟩) (by assumption) ?ra54
  case ya54 => intro w hSw; (try dsimp only at hSw); go_simp; try with_reducible rfl
  (try simp only [Act.put, List.setIfInBounds_toArray, List.set_cons_zero, List.set_cons_succ])
  refine wpAnyH_ready (rs := [54]) (by kernel_rfl) (by simp) ?_
  refine AllReadyH.cons (o := { dst := some 115, op := Op.call { callee := Callee.value (Operand.func 25), args := #[Operand.tmp 114], argTypes := #[25] }, type := 3, pos := "law.go:41", after := #[{ on := 53, ground := Ground.data }, { on := 52, ground := Ground.chain }, { on := 52, ground := Ground.guard }], guard := some (52, true) }) rfl (fun K hK => ?_) AllReadyH.nil
  go_simp
  go_at_call 25; refine (HC2.out _ S.out).mono ?_; rintro e v1 ⟨rfl, hw⟩; subst hw
  go_wp2_with fail
  refine hK.out _ _ ?_ (fun hHeld => ?_)
  · exact T
  clear hK K
  (try simp only [Act.put, List.setIfInBounds_toArray, List.set_cons_zero, List.set_cons_succ])
  refine wpAnyH_take (i := 55) (oi := { dst := some 116, op := Op.binOp BinOp.eql 3 (Operand.tmp 115) (Operand.const (Value.int IntKind.i64 2)) 3, type := 4, pos := "law.go:41", after := #[{ on := 54, ground := Ground.data }, { on := 52, ground := Ground.guard }], guard := some (52, true) }) (v := ?va55) rfl (by kernel_rfl) (by kernel_rfl) (by kernel_rfl) (fun _ _ _ h => h) (Or.inl ⟨by rfl, ?ya55⟩) (by assumption) ?ra55
  case ya55 => intro w hSw; (try dsimp only at hSw); go_simp; try with_reducible rfl
  (try simp only [Act.put, List.setIfInBounds_toArray, List.set_cons_zero, List.set_cons_succ])
  refine wpAnyH_take (i := 56) (oi := { dst := some 117, op := Op.pick (Operand.tmp 113) (Operand.tmp 116) (Operand.const (Value.bool false)), type := 4, pos := "law.go:41", after := #[{ on := 52, ground := Ground.data }, { on := 55, ground := Ground.data }], guard := none }) (v := ?va56) rfl (by kernel_rfl) (by kernel_rfl) (by kernel_rfl) (fun _ _ _ h => h) (Or.inl ⟨by rfl, ?ya56⟩) (by assumption) ?ra56
  case ya56 => intro w hSw; (try dsimp only at hSw); go_simp; try with_reducible rfl
  (try simp only [Act.put, List.setIfInBounds_toArray, List.set_cons_zero, List.set_cons_succ])
  refine wpAnyH_take (i := 57) (oi := { dst := some 118, op := Op.move (Operand.tmp 117), type := 4, pos := "law.go:41", after := #[{ on := 56, ground := Ground.data }, { on := 54, ground := Ground.chain }], guard := none }) (v := ?va57) rfl (by kernel_rfl) (by kernel_rfl) (by kernel_rfl) (fun _ _ _ h => h) (Or.inl ⟨by rfl, ?ya57⟩) (by assumption) ?ra57
  case ya57 => intro w hSw; (try dsimp only at hSw); go_simp; try with_reducible rfl
  (try simp only [Act.put, List.setIfInBounds_toArray, List.set_cons_zero, List.set_cons_succ])
  refine wpAnyH_take (i := 58) (oi := { dst := some 119, op := Op.move (Operand.tmp 1), type := 25, pos := "law.go:41", after := #[{ on := 57, ground := Ground.guard }], guard := some (57, true) }) (v := ?va58) rfl (by kernel_rfl) (by kernel_rfl) (by kernel_rfl) (fun _ _ _ h => h) (Or.inl ⟨by rfl, ?ya58⟩) (by assumption) ?ra58
  case ya58 => intro w hSw; (try dsimp only at hSw); go_simp; try with_reducible rfl
  (try simp only [Act.put, List.setIfInBounds_toArray, List.set_cons_zero, List.set_cons_succ])
  refine wpAnyH_ready (rs := [59]) (by kernel_rfl) (by simp) ?_
  refine AllReadyH.cons (o := { dst := some 120, op := Op.call { callee := Callee.value (Operand.func 23), args := #[Operand.tmp 119], argTypes := #[25] }, type := 57, pos := "law.go:41", after := #[{ on := 58, ground := Ground.data }, { on := 57, ground := Ground.chain }, { on := 57, ground := Ground.guard }], guard := some (57, true) }) rfl (fun K hK => ?_) AllReadyH.nil
  go_simp
  go_at_call 23; refine (HKY.out _ S.out).mono ?_; intro e v2 hE; obtain ⟨ka, kc, rfl, k1⟩ := hE; replace S := hide (S.out.keeps k1); replace KX := hide (KX.out.trans (KB.of k1)); replace T := HT.out _ KX.out; clear k1
  go_wp2_with fail
  refine hK.out _ _ ?_ (fun hHeld => ?_)
  · exact T
  clear hK K
  (try simp only [Act.put, List.setIfInBounds_toArray, List.set_cons_zero, List.set_cons_succ])
  refine wpAnyH_take (i := 60) (oi := { dst := some 121, op := Op.call { callee := Callee.builtin Builtin.len, args := #[Operand.tmp 120], argTypes := #[57] }, type := 3, pos := "law.go:41", after := #[{ on := 59, ground := Ground.data }, { on := 57, ground := Ground.guard }], guard := some (57, true) }) (v := ?va59) rfl (by kernel_rfl) (by kernel_rfl) (by kernel_rfl) (fun _ _ _ h => h) (Or.inl ⟨by rfl, ?ya59⟩) (by assumption) ?ra59
  case ya59 => intro w hSw; (try dsimp only at hSw); go_simp; try with_reducible rfl
  (try simp only [Act.put, List.setIfInBounds_toArray, List.set_cons_zero, List.set_cons_succ])
  refine wpAnyH_take (i := 61) (oi := { dst := some 122, op := Op.binOp BinOp.eql 3 (Operand.tmp 121) (Operand.const (Value.int IntKind.i64 2)) 3, type := 4, pos := "law.go:41", after := #[{ on := 60, ground := Ground.data }, { on := 57, ground := Ground.guard }], guard := some (57, true) }) (v := ?va60) rfl (by kernel_rfl) (by kernel_rfl) (by kernel_rfl) (fun _ _ _ h => h) (Or.inl ⟨by rfl, ?ya60⟩) (by assumption) ?ra60
  case ya60 => intro w hSw; (try dsimp only at hSw); go_simp; try with_reducible rfl
  (try simp only [Act.put, List.setIfInBounds_toArray, List.set_cons_zero, List.set_cons_succ])
  refine wpAnyH_take (i := 62) (oi := { dst := some 123, op := Op.pick (Operand.tmp 118) (Operand.tmp 122) (Operand.const (Value.bool false)), type := 4, pos := "law.go:41", after := #[{ on := 57, ground := Ground.data }, { on := 61, ground := Ground.data }], guard := none }) (v := ?va61) rfl (by kernel_rfl) (by kernel_rfl) (by kernel_rfl) (fun _ _ _ h => h) (Or.inl ⟨by rfl, ?ya61⟩) (by assumption) ?ra61
  case ya61 => intro w hSw; (try dsimp only at hSw); go_simp; try with_reducible rfl
  (try simp only [Act.put, List.setIfInBounds_toArray, List.set_cons_zero, List.set_cons_succ])
  refine wpAnyH_take (i := 63) (oi := { dst := some 124, op := Op.move (Operand.tmp 123), type := 4, pos := "law.go:41", after := #[{ on := 62, ground := Ground.data }, { on := 59, ground := Ground.chain }], guard := none }) (v := ?va62) rfl (by kernel_rfl) (by kernel_rfl) (by kernel_rfl) (fun _ _ _ h => h) (Or.inl ⟨by rfl, ?ya62⟩) (by assumption) ?ra62
  case ya62 => intro w hSw; (try dsimp only at hSw); go_simp; try with_reducible rfl
  (try simp only [Act.put, List.setIfInBounds_toArray, List.set_cons_zero, List.set_cons_succ])
  refine wpAnyH_take (i := 64) (oi := { dst := some 125, op := Op.move (Operand.tmp 1), type := 25, pos := "law.go:41", after := #[{ on := 63, ground := Ground.guard }], guard := some (63, true) }) (v := ?va63) rfl (by kernel_rfl) (by kernel_rfl) (by kernel_rfl) (fun _ _ _ h => h) (Or.inl ⟨by rfl, ?ya63⟩) (by assumption) ?ra63
  case ya63 => intro w hSw; (try dsimp only at hSw); go_simp; try with_reducible rfl
  (try simp only [Act.put, List.setIfInBounds_toArray, List.set_cons_zero, List.set_cons_succ])
  refine wpAnyH_ready (rs := [65]) (by kernel_rfl) (by simp) ?_
  refine AllReadyH.cons (o := { dst := some 126, op := Op.call { callee := Callee.value (Operand.func 21), args := #[Operand.tmp 125, Operand.const (Value.string { data := #[1, 97, 0] })], argTypes := #[25, 9] }, type := 3, pos := "law.go:41", after := #[{ on := 64, ground := Ground.data }, { on := 63, ground := Ground.chain }, { on := 63, ground := Ground.guard }], guard := some (63, true) }) rfl (fun K hK => ?_) AllReadyH.nil
  go_simp
  go_at_call 21; refine (HDR.out _ S.out).mono ?_; intro e v3 hE; obtain ⟨rfl, hS, kb⟩ := hE; replace S := hide hS; replace KX := hide (KX.out.trans kb); replace T := HT.out _ KX.out; clear hS kb
  go_wp2_with fail
  refine hK.out _ _ ?_ (fun hHeld => ?_)
  · exact T
  clear hK K
  (try simp only [Act.put, List.setIfInBounds_toArray, List.set_cons_zero, List.set_cons_succ])
  refine wpAnyH_take (i := 66) (oi := { dst := some 127, op := Op.binOp BinOp.eql 3 (Operand.tmp 126) (Operand.const (Value.int IntKind.i64 2)) 3, type := 4, pos := "law.go:41", after := #[{ on := 65, ground := Ground.data }, { on := 63, ground := Ground.guard }], guard := some (63, true) }) (v := ?va64) rfl (by kernel_rfl) (by kernel_rfl) (by kernel_rfl) (fun _ _ _ h => h) (Or.inl ⟨by rfl, ?ya64⟩) (by assumption) ?ra64
  case ya64 => intro w hSw; (try dsimp only at hSw); go_simp; try with_reducible rfl
  (try simp only [Act.put, List.setIfInBounds_toArray, List.set_cons_zero, List.set_cons_succ])
  refine wpAnyH_take (i := 67) (oi := { dst := some 128, op := Op.pick (Operand.tmp 124) (Operand.tmp 127) (Operand.const (Value.bool false)), type := 4, pos := "law.go:41", after := #[{ on := 63, ground := Ground.data }, { on := 66, ground := Ground.data }], guard := none }) (v := ?va65) rfl (by kernel_rfl) (by kernel_rfl) (by kernel_rfl) (fun _ _ _ h => h) (Or.inl ⟨by rfl, ?ya65⟩) (by assumption) ?ra65
  case ya65 => intro w hSw; (try dsimp only at hSw); go_simp; try with_reducible rfl
  (try simp only [Act.put, List.setIfInBounds_toArray, List.set_cons_zero, List.set_cons_succ])
  refine wpAnyH_take (i := 68) (oi := { dst := some 129, op := Op.move (Operand.tmp 128), type := 4, pos := "law.go:41", after := #[{ on := 67, ground := Ground.data }, { on := 65, ground := Ground.chain }], guard := none }) (v := ?va66) rfl (by kernel_rfl) (by kernel_rfl) (by kernel_rfl) (fun _ _ _ h => h) (Or.inl ⟨by rfl, ?ya66⟩) (by assumption) ?ra66
  case ya66 => intro w hSw; (try dsimp only at hSw); go_simp; try with_reducible rfl
  (try simp only [Act.put, List.setIfInBounds_toArray, List.set_cons_zero, List.set_cons_succ])
  refine wpAnyH_take (i := 69) (oi := { dst := some 130, op := Op.move (Operand.tmp 1), type := 25, pos := "law.go:41", after := #[{ on := 68, ground := Ground.guard }], guard := some (68, true) }) (v := ?va67) rfl (by kernel_rfl) (by kernel_rfl) (by kernel_rfl) (fun _ _ _ h => h) (Or.inl ⟨by rfl, ?ya67⟩) (by assumption) ?ra67
  case ya67 => intro w hSw; (try dsimp only at hSw); go_simp; try with_reducible rfl
  (try simp only [Act.put, List.setIfInBounds_toArray, List.set_cons_zero, List.set_cons_succ])
  refine wpAnyH_ready (rs := [70]) (by kernel_rfl) (by simp) ?_
  refine AllReadyH.cons (o := { dst := some 131, op := Op.call { callee := Callee.value (Operand.func 25), args := #[Operand.tmp 130], argTypes := #[25] }, type := 3, pos := "law.go:41", after := #[{ on := 69, ground := Ground.data }, { on := 68, ground := Ground.chain }, { on := 68, ground := Ground.guard }], guard := some (68, true) }) rfl (fun K hK => ?_) AllReadyH.nil
  go_simp
  go_at_call 25; refine (HC3.out _ S.out).mono ?_; rintro e v1 ⟨rfl, hw⟩; subst hw
  go_wp2_with fail
  refine hK.out _ _ ?_ (fun hHeld => ?_)
  · exact T
  clear hK K
  (try simp only [Act.put, List.setIfInBounds_toArray, List.set_cons_zero, List.set_cons_succ])
  refine wpAnyH_take (i := 71) (oi := { dst := some 132, op := Op.binOp BinOp.eql 3 (Operand.tmp 131) (Operand.const (Value.int IntKind.i64 3)) 3, type := 4, pos := "law.go:41", after := #[{ on := 70, ground := Ground.data }, { on := 68, ground := Ground.guard }], guard := some (68, true) }) (v := ?va68) rfl (by kernel_rfl) (by kernel_rfl) (by kernel_rfl) (fun _ _ _ h => h) (Or.inl ⟨by rfl, ?ya68⟩) (by assumption) ?ra68
  case ya68 => intro w hSw; (try dsimp only at hSw); go_simp; try with_reducible rfl
  (try simp only [Act.put, List.setIfInBounds_toArray, List.set_cons_zero, List.set_cons_succ])
  refine wpAnyH_take (i := 72) (oi := { dst := some 133, op := Op.pick (Operand.tmp 129) (Operand.tmp 132) (Operand.const (Value.bool false)), type := 4, pos := "law.go:41", after := #[{ on := 68, ground := Ground.data }, { on := 71, ground := Ground.data }], guard := none }) (v := ?va69) rfl (by kernel_rfl) (by kernel_rfl) (by kernel_rfl) (fun _ _ _ h => h) (Or.inl ⟨by rfl, ?ya69⟩) (by assumption) ?ra69
  case ya69 => intro w hSw; (try dsimp only at hSw); go_simp; try with_reducible rfl
  (try simp only [Act.put, List.setIfInBounds_toArray, List.set_cons_zero, List.set_cons_succ])
  refine wpAnyH_take (i := 73) (oi := { dst := some 134, op := Op.move (Operand.tmp 133), type := 4, pos := "law.go:41", after := #[{ on := 72, ground := Ground.data }, { on := 70, ground := Ground.chain }], guard := none }) (v := ?va70) rfl (by kernel_rfl) (by kernel_rfl) (by kernel_rfl) (fun _ _ _ h => h) (Or.inl ⟨by rfl, ?ya70⟩) (by assumption) ?ra70
  case ya70 => intro w hSw; (try dsimp only at hSw); go_simp; try with_reducible rfl
  (try simp only [Act.put, List.setIfInBounds_toArray, List.set_cons_zero, List.set_cons_succ])
  refine wpAnyH_take (i := 74) (oi := { dst := some 135, op := Op.move (Operand.tmp 1), type := 25, pos := "law.go:41", after := #[{ on := 73, ground := Ground.guard }], guard := some (73, true) }) (v := ?va71) rfl (by kernel_rfl) (by kernel_rfl) (by kernel_rfl) (fun _ _ _ h => h) (Or.inl ⟨by rfl, ?ya71⟩) (by assumption) ?ra71
  case ya71 => intro w hSw; (try dsimp only at hSw); go_simp; try with_reducible rfl
  (try simp only [Act.put, List.setIfInBounds_toArray, List.set_cons_zero, List.set_cons_succ])
  refine wpAnyH_take (i := 75) (oi := { dst := some 136, op := Op.load 32 (Operand.tmp 2), type := 32, pos := "law.go:41", after := #[{ on := 73, ground := Ground.guard }], guard := some (73, true) }) (v := ?va72) rfl (by kernel_rfl) (by kernel_rfl) (by kernel_rfl) (fun _ _ _ h => h) (Or.inl ⟨by rfl, ?ya72⟩) (by assumption) ?ra72
  case ya72 => intro w hSw; (try dsimp only at hSw); go_simp; try with_reducible rfl
  (try simp only [Act.put, List.setIfInBounds_toArray, List.set_cons_zero, List.set_cons_succ])
  refine wpAnyH_ready (rs := [76]) (by kernel_rfl) (by simp) ?_
  refine AllReadyH.cons (o := { dst := some 137, op := Op.call { callee := Callee.value (Operand.func 29), args := #[Operand.const (Value.int IntKind.i64 0)], argTypes := #[3] }, type := 35, pos := "law.go:41", after := #[{ on := 73, ground := Ground.chain }, { on := 73, ground := Ground.guard }], guard := some (73, true) }) rfl (fun K hK => ?_) AllReadyH.nil
  go_simp
  go_at_call 29; refine (soa15_any _ _).mono ?_; intro e v4 hE; obtain ⟨ra, rc, rfl, hR, k1⟩ := hE; replace r1 := hide hR; replace S := hide (S.out.keeps k1); replace KX := hide (KX.out.trans (KB.of k1)); replace T := HT.out _ KX.out; clear k1 hR
  go_wp2_with fail
  refine hK.out _ _ ?_ (fun hHeld => ?_)
  · exact T
  clear hK K
  (try simp only [Act.put, List.setIfInBounds_toArray, List.set_cons_zero, List.set_cons_succ])
  refine wpAnyH_ready (rs := [77]) (by kernel_rfl) (by simp) ?_
  refine AllReadyH.cons (o := { dst := some 138, op := Op.call { callee := Callee.value (Operand.func 15), args := #[Operand.tmp 135, Operand.const (Value.int IntKind.i64 5), Operand.tmp 136, Operand.const (Value.bool true), Operand.tmp 137], argTypes := #[25, 3, 32, 4, 35] }, type := 40, pos := "law.go:41", after := #[{ on := 74, ground := Ground.data }, { on := 75, ground := Ground.data }, { on := 76, ground := Ground.data }, { on := 76, ground := Ground.chain }, { on := 73, ground := Ground.guard }], guard := some (73, true) }) rfl (fun K hK => ?_) AllReadyH.nil
  go_simp
  go_at_call 15; refine (HP9.out _ _ ⟨_, rfl, r1.out⟩ S.out).mono ?_; intro e v5 hE; obtain ⟨rfl, hS, kb⟩ := hE; replace S := hide hS; replace KX := hide (KX.out.trans kb); replace T := HT.out _ KX.out; clear hS kb
  go_wp2_with fail
  refine hK.out _ _ ?_ (fun hHeld => ?_)
  · exact T
  clear hK K
  (try simp only [Act.put, List.setIfInBounds_toArray, List.set_cons_zero, List.set_cons_succ])
  refine wpAnyH_take (i := 78) (oi := { dst := some 139, op := Op.binOp BinOp.eql 40 (Operand.tmp 138) (Operand.const (Value.int IntKind.i64 14)) 40, type := 4, pos := "law.go:41", after := #[{ on := 77, ground := Ground.data }, { on := 73, ground := Ground.guard }], guard := some (73, true) }) (v := ?va73) rfl (by kernel_rfl) (by kernel_rfl) (by kernel_rfl) (fun _ _ _ h => h) (Or.inl ⟨by rfl, ?ya73⟩) (by assumption) ?ra73
  case ya73 => intro w hSw; (try dsimp only at hSw); go_simp; try with_reducible rfl
  (try simp only [Act.put, List.setIfInBounds_toArray, List.set_cons_zero, List.set_cons_succ])
  refine wpAnyH_take (i := 79) (oi := { dst := some 140, op := Op.pick (Operand.tmp 134) (Operand.tmp 139) (Operand.const (Value.bool false)), type := 4, pos := "law.go:41", after := #[{ on := 73, ground := Ground.data }, { on := 78, ground := Ground.data }], guard := none }) (v := ?va74) rfl (by kernel_rfl) (by kernel_rfl) (by kernel_rfl) (fun _ _ _ h => h) (Or.inl ⟨by rfl, ?ya74⟩) (by assumption) ?ra74
  case ya74 => intro w hSw; (try dsimp only at hSw); go_simp; try with_reducible rfl
  (try simp only [Act.put, List.setIfInBounds_toArray, List.set_cons_zero, List.set_cons_succ])
  refine wpAnyH_take (i := 80) (oi := { dst := some 141, op := Op.move (Operand.tmp 140), type := 4, pos := "law.go:41", after := #[{ on := 79, ground := Ground.data }, { on := 77, ground := Ground.chain }], guard := none }) (v := ?va75) rfl (by kernel_rfl) (by kernel_rfl) (by kernel_rfl) (fun _ _ _ h => h) (Or.inl ⟨by rfl, ?ya75⟩) (by assumption) ?ra75
  case ya75 => intro w hSw; (try dsimp only at hSw); go_simp; try with_reducible rfl
  (try simp only [Act.put, List.setIfInBounds_toArray, List.set_cons_zero, List.set_cons_succ])
  refine wpAnyH_take (i := 81) (oi := { dst := some 142, op := Op.move (Operand.tmp 1), type := 25, pos := "law.go:41", after := #[{ on := 80, ground := Ground.guard }], guard := some (80, true) }) (v := ?va76) rfl (by kernel_rfl) (by kernel_rfl) (by kernel_rfl) (fun _ _ _ h => h) (Or.inl ⟨by rfl, ?ya76⟩) (by assumption) ?ra76
  case ya76 => intro w hSw; (try dsimp only at hSw); go_simp; try with_reducible rfl
  (try simp only [Act.put, List.setIfInBounds_toArray, List.set_cons_zero, List.set_cons_succ])
  refine wpAnyH_take (i := 82) (oi := { dst := some 143, op := Op.load 32 (Operand.tmp 2), type := 32, pos := "law.go:41", after := #[{ on := 80, ground := Ground.guard }], guard := some (80, true) }) (v := ?va77) rfl (by kernel_rfl) (by kernel_rfl) (by kernel_rfl) (fun _ _ _ h => h) (Or.inl ⟨by rfl, ?ya77⟩) (by assumption) ?ra77
  case ya77 => intro w hSw; (try dsimp only at hSw); go_simp; try with_reducible rfl
  (try simp only [Act.put, List.setIfInBounds_toArray, List.set_cons_zero, List.set_cons_succ])
  refine wpAnyH_ready (rs := [83]) (by kernel_rfl) (by simp) ?_
  refine AllReadyH.cons (o := { dst := some 144, op := Op.call { callee := Callee.value (Operand.func 29), args := #[Operand.const (Value.int IntKind.i64 1)], argTypes := #[3] }, type := 35, pos := "law.go:41", after := #[{ on := 80, ground := Ground.chain }, { on := 80, ground := Ground.guard }], guard := some (80, true) }) rfl (fun K hK => ?_) AllReadyH.nil
  go_simp
  go_at_call 29; refine (soa15_any _ _).mono ?_; intro e v4 hE; obtain ⟨ra, rc, rfl, hR, k1⟩ := hE; replace r1 := hide hR; replace S := hide (S.out.keeps k1); replace KX := hide (KX.out.trans (KB.of k1)); replace T := HT.out _ KX.out; clear k1 hR
  go_wp2_with fail
  refine hK.out _ _ ?_ (fun hHeld => ?_)
  · exact T
  clear hK K
  (try simp only [Act.put, List.setIfInBounds_toArray, List.set_cons_zero, List.set_cons_succ])
  refine wpAnyH_ready (rs := [84]) (by kernel_rfl) (by simp) ?_
  refine AllReadyH.cons (o := { dst := some 145, op := Op.call { callee := Callee.value (Operand.func 15), args := #[Operand.tmp 142, Operand.const (Value.int IntKind.i64 (-1)), Operand.tmp 143, Operand.const (Value.bool true), Operand.tmp 144], argTypes := #[25, 3, 32, 4, 35] }, type := 40, pos := "law.go:41", after := #[{ on := 81, ground := Ground.data }, { on := 82, ground := Ground.data }, { on := 83, ground := Ground.data }, { on := 83, ground := Ground.chain }, { on := 80, ground := Ground.guard }], guard := some (80, true) }) rfl (fun K hK => ?_) AllReadyH.nil
  go_simp
  go_at_call 15; refine (HP10.out _ _ ⟨_, rfl, r1.out⟩ S.out).mono ?_; intro e v5 hE; obtain ⟨rfl, hS, kb⟩ := hE; replace S := hide hS; replace KX := hide (KX.out.trans kb); replace T := HT.out _ KX.out; clear hS kb
  go_wp2_with fail
  refine hK.out _ _ ?_ (fun hHeld => ?_)
  · exact T
  clear hK K
  (try simp only [Act.put, List.setIfInBounds_toArray, List.set_cons_zero, List.set_cons_succ])
  refine wpAnyH_take (i := 85) (oi := { dst := some 146, op := Op.binOp BinOp.eql 40 (Operand.tmp 145) (Operand.const (Value.int IntKind.i64 1)) 40, type := 4, pos := "law.go:41", after := #[{ on := 84, ground := Ground.data }, { on := 80, ground := Ground.guard }], guard := some (80, true) }) (v := ?va78) rfl (by kernel_rfl) (by kernel_rfl) (by kernel_rfl) (fun _ _ _ h => h) (Or.inl ⟨by rfl, ?ya78⟩) (by assumption) ?ra78
  case ya78 => intro w hSw; (try dsimp only at hSw); go_simp; try with_reducible rfl
  (try simp only [Act.put, List.setIfInBounds_toArray, List.set_cons_zero, List.set_cons_succ])
  refine wpAnyH_take (i := 86) (oi := { dst := some 147, op := Op.pick (Operand.tmp 141) (Operand.tmp 146) (Operand.const (Value.bool false)), type := 4, pos := "law.go:41", after := #[{ on := 80, ground := Ground.data }, { on := 85, ground := Ground.data }], guard := none }) (v := ?va79) rfl (by kernel_rfl) (by kernel_rfl) (by kernel_rfl) (fun _ _ _ h => h) (Or.inl ⟨by rfl, ?ya79⟩) (by assumption) ?ra79
  case ya79 => intro w hSw; (try dsimp only at hSw); go_simp; try with_reducible rfl
  (try simp only [Act.put, List.setIfInBounds_toArray, List.set_cons_zero, List.set_cons_succ])
  refine wpAnyH_take (i := 87) (oi := { dst := some 0, op := Op.assign (Operand.tmp 147), type := 4, pos := "law.go:41", after := #[{ on := 86, ground := Ground.data }, { on := 84, ground := Ground.chain }, { on := 0, ground := Ground.phase }, { on := 1, ground := Ground.phase }, { on := 2, ground := Ground.phase }, { on := 3, ground := Ground.phase }, { on := 4, ground := Ground.phase }, { on := 5, ground := Ground.phase }, { on := 6, ground := Ground.phase }, { on := 7, ground := Ground.phase }, { on := 8, ground := Ground.phase }, { on := 9, ground := Ground.phase }, { on := 10, ground := Ground.phase }, { on := 11, ground := Ground.phase }, { on := 12, ground := Ground.phase }, { on := 13, ground := Ground.phase }, { on := 14, ground := Ground.phase }, { on := 15, ground := Ground.phase }, { on := 16, ground := Ground.phase }, { on := 17, ground := Ground.phase }, { on := 18, ground := Ground.phase }, { on := 19, ground := Ground.phase }, { on := 20, ground := Ground.phase }, { on := 21, ground := Ground.phase }, { on := 22, ground := Ground.phase }, { on := 23, ground := Ground.phase }, { on := 24, ground := Ground.phase }, { on := 25, ground := Ground.phase }, { on := 26, ground := Ground.phase }, { on := 27, ground := Ground.phase }, { on := 28, ground := Ground.phase }, { on := 29, ground := Ground.phase }, { on := 30, ground := Ground.phase }, { on := 31, ground := Ground.phase }, { on := 32, ground := Ground.phase }, { on := 33, ground := Ground.phase }, { on := 34, ground := Ground.phase }, { on := 35, ground := Ground.phase }, { on := 36, ground := Ground.phase }, { on := 37, ground := Ground.phase }, { on := 38, ground := Ground.phase }, { on := 39, ground := Ground.phase }, { on := 40, ground := Ground.phase }, { on := 41, ground := Ground.phase }, { on := 42, ground := Ground.phase }, { on := 43, ground := Ground.phase }, { on := 44, ground := Ground.phase }, { on := 45, ground := Ground.phase }, { on := 46, ground := Ground.phase }, { on := 47, ground := Ground.phase }, { on := 48, ground := Ground.phase }, { on := 49, ground := Ground.phase }, { on := 50, ground := Ground.phase }, { on := 51, ground := Ground.phase }, { on := 52, ground := Ground.phase }, { on := 53, ground := Ground.phase }, { on := 54, ground := Ground.phase }, { on := 55, ground := Ground.phase }, { on := 56, ground := Ground.phase }, { on := 57, ground := Ground.phase }, { on := 58, ground := Ground.phase }, { on := 59, ground := Ground.phase }, { on := 60, ground := Ground.phase }, { on := 61, ground := Ground.phase }, { on := 62, ground := Ground.phase }, { on := 63, ground := Ground.phase }, { on := 64, ground := Ground.phase }, { on := 65, ground := Ground.phase }, { on := 66, ground := Ground.phase }, { on := 67, ground := Ground.phase }, { on := 68, ground := Ground.phase }, { on := 69, ground := Ground.phase }, { on := 70, ground := Ground.phase }, { on := 71, ground := Ground.phase }, { on := 72, ground := Ground.phase }, { on := 73, ground := Ground.phase }, { on := 74, ground := Ground.phase }, { on := 75, ground := Ground.phase }, { on := 76, ground := Ground.phase }, { on := 77, ground := Ground.phase }, { on := 78, ground := Ground.phase }, { on := 79, ground := Ground.phase }, { on := 80, ground := Ground.phase }, { on := 81, ground := Ground.phase }, { on := 82, ground := Ground.phase }, { on := 83, ground := Ground.phase }, { on := 84, ground := Ground.phase }, { on := 85, ground := Ground.phase }, { on := 86, ground := Ground.phase }], guard := none }) (v := ?va80) rfl (by kernel_rfl) (by kernel_rfl) (by kernel_rfl) (fun _ _ _ h => h) (Or.inl ⟨by rfl, ?ya80⟩) (by assumption) ?ra80
  case ya80 => intro w hSw; (try dsimp only at hSw); go_simp; try with_reducible rfl
  (try simp only [Act.put, List.setIfInBounds_toArray, List.set_cons_zero])
  refine wpAnyH_done (by kernel_rfl) ?_ _
  have KF := hide (show Keeps w _ from Below.trans K.out.drew (KX.out.below hpw.out.1 hpw.out.2 K.out.size))
  go_wp2
  go_ret
  exact ⟨rfl, KF.out⟩
end Go.Proofs.Ytedcjkfiljjpiaa
