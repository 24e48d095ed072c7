/- The document's store: something is dropped. No condition but lengths. -/
import Derived.Test.YtdlaepfnogmebaaStoJ
namespace Go.Proofs.Ytdlaepfnogmebaa
open Go.RowKit

theorem without_placed {zs : List (It × Value)} {q : Qn} {a : Nat} (hnd : (Sto.keysL (itemsZ zs)).Nodup) (h : a < zs.length) (hk : zs[a].1.set.key = q) : itemsZ (zs.eraseIdx a) = Sto.without (itemsZ zs) q := by
  induction zs generalizing a with
  | nil => exact absurd h (by simp)
  | cons z zs ih =>
    have hz : itemsZ (z :: zs) = z.1 :: itemsZ zs := rfl
    rw [hz] at hnd ⊢
    unfold Sto.keysL at hnd
    rw [List.map_cons, List.nodup_cons] at hnd
    cases a with
    | zero =>
      have hk' : z.1.set.key = q := hk
      unfold Sto.without
      rw [List.filter_cons_of_neg (by simp [hk']), List.eraseIdx_zero, List.tail_cons]
      symm
      rw [List.filter_eq_self]
      intro i hi
      simp only [ne_eq, decide_not, Bool.not_eq_eq_eq_not, Bool.not_true, decide_eq_false_iff_not]
      intro e
      exact hnd.1 (List.mem_map.2 ⟨i, hi, by rw [e, hk']⟩)
    | succ a =>
      have h' : a < zs.length := by simpa using h
      have hk' : zs[a].1.set.key = q := by simpa using hk
      have hne : ¬ z.1.set.key = q := fun e => hnd.1 (List.mem_map.2 ⟨zs[a].1, List.mem_map.2 ⟨zs[a], List.getElem_mem h', rfl⟩, by rw [e, hk']⟩)
      rw [List.eraseIdx_cons_succ]
      unfold Sto.without
      rw [List.filter_cons_of_pos (by simp [hne])]
      show z.1 :: itemsZ (zs.eraseIdx a) = _
      rw [ih hnd.2 h' hk']
      rfl
theorem without_unplaced {zs : List (It × Value)} {q : Qn} (hn : ∀ z ∈ zs, z.1.set.key ≠ q) : itemsZ zs = Sto.without (itemsZ zs) q := by
  unfold Sto.without
  symm
  rw [List.filter_eq_self]
  intro i hi
  obtain ⟨z, hz, rfl⟩ := List.mem_map.1 hi
  simpa using hn z hz
/-- The slice of what comes of it: the old one, or one of the call's own. -/
def NewOr (B : Nat) (v v' : Value) : Prop := v' = v ∨ ∀ a n c, v' = .slice (some a) n c → B ≤ a.block
def RDropEnd (w : World) (room ch : Int) (v : Value) (zs : List (It × Value)) (q : Qn) (e : Ending) (w' : World) : Prop :=
  ∃ v' zs', e = .returned (.tuple #[.agg #[.int .i64 room, v', .int .i64 (if (Sto.find (itemsZ zs) q).isSome = true then ch + 1 else ch)], .bool (Sto.find (itemsZ zs) q).isSome]) ∧ ReadRow w' v' 7 (zs'.map itZ) ∧ itemsZ zs' = Sto.without (itemsZ zs) q ∧ (∀ z ∈ zs', z ∈ zs) ∧ NewOr w.heap.size v v' ∧ Keeps w w'
set_option maxHeartbeats 16000000 in
set_option maxRecDepth 100000 in
theorem rDrop_any (room ch : Int) (v : Value) (zs : List (It × Value)) (q : Qn) (w : World) (hv : ReadRow w v 7 (zs.map itZ)) (hz : ∀ z ∈ zs, ∃ a n c, z.2 = .slice a n c) (hl : zs.length ≤ 1000000) (hnd : (Sto.keysL (itemsZ zs)).Nodup) (hch : 0 ≤ ch ∧ ch ≤ 1099511627776) :
    Calls Try.prog 22 #[.agg #[.int .i64 room, v, .int .i64 ch], .agg #[.string q.n, .int .i64 q.t, .int .i64 q.c]] w fun e w' => RDropEnd w room ch v zs q e w' := by
  have HPL := hide (fun W (k : Keeps w W) => Place14_any room ch v zs q W (hv.keeps k) hl)
  have HWO := hide (fun W (k : Keeps w W) at_ a hat => without14_any v zs at_ a W (hv.keeps k) hz hl hat)
  have RD := hide hv
  obtain ⟨va, vc, hvd⟩ := hv.len
  rw [List.length_map] at hvd
  subst hvd
  clear hv
  have HE0 : Hid ((∀ z ∈ zs, z.1.set.key ≠ q) → ∀ W, Keeps w W → RDropEnd w room ch (.slice va zs.length vc) zs q (.returned (.tuple #[.agg #[.int .i64 room, .slice va zs.length vc, .int .i64 ch], .bool false])) W) := fun hn W k => by
    have hf := find_unplaced hn
    refine ⟨_, zs, ?_, RD.out.keeps k, without_unplaced hn, fun z h => h, .inl rfl, k⟩
    rw [hf]
    rfl
  have HE1 : Hid (∀ (a : Nat) (h : a < zs.length), zs[a].1.set.key = q → (∀ z ∈ zs.take a, z.1.set.key ≠ q) → ∀ W v' B, w.heap.size ≤ B → OwnsR W B 43 7 v' ((zs.eraseIdx a).map itZ) → Keeps w W → RDropEnd w room ch (.slice va zs.length vc) zs q (.returned (.tuple #[.agg #[.int .i64 room, v', .int .i64 (ch + 1)], .bool true])) W) := fun a h hk hn W v' B hB ho k => by
    have hf := find_placed h hk hn
    refine ⟨v', zs.eraseIdx a, ?_, ho.read, without_placed hnd h hk, fun z h => List.mem_of_mem_eraseIdx h, .inr (fun x n c e => Nat.le_trans hB (ho.above x n c e)), k⟩
    rw [hf]
    rfl
  have A := hide (((Blk.made w #[.int .i64 room, .slice va zs.length vc, .int .i64 ch] 29).alloc (.cells #[.string q.n, .int .i64 q.t, .int .i64 q.c] 32)).alloc (.cells #[.int .i64 0, .slice none 0 0, .int .i64 0] 29))
  have B := (Blk.made (w.alloc (.cells #[.int .i64 room, .slice va zs.length vc, .int .i64 ch] 29)) #[.string q.n, .int .i64 q.t, .int .i64 q.c] 32).alloc (.cells #[.int .i64 0, .slice none 0 0, .int .i64 0] 29)
  have R := Blk.made ((w.alloc (.cells #[.int .i64 room, .slice va zs.length vc, .int .i64 ch] 29)).alloc (.cells #[.string q.n, .int .i64 q.t, .int .i64 q.c] 32)) #[.int .i64 0, .slice none 0 0, .int .i64 0] 29
  rw [size_allocG] at B
  rw [size_allocG, size_allocG] at R
  replace B := hide B
  replace R := hide R
  have K := hide ((((Keeps.refl w).alloc (.cells #[.int .i64 room, .slice va zs.length vc, .int .i64 ch] 29)).alloc (.cells #[.string q.n, .int .i64 q.t, .int .i64 q.c] 32)).alloc (.cells #[.int .i64 0, .slice none 0 0, .int .i64 0] 29))
  clear hnd hz
  go_enter Try.func22, Try.ntmps22
  go_upto_region 1 with fail
  generalize ((w.alloc (.cells #[.int .i64 room, .slice va zs.length vc, .int .i64 ch] 29)).alloc (.cells #[.string q.n, .int .i64 q.t, .int .i64 q.c] 32)).alloc (.cells #[.int .i64 0, .slice none 0 0, .int .i64 0] 29) = W at *
  have hle : Hid (w.heap.size ≤ w.heap.size ∧ w.heap.size ≤ w.heap.size + 1 + 1) := by rw [Hid]; omega
  have hne : Hid (w.heap.size ≠ w.heap.size + 1 + 1) := by rw [Hid]; omega
  generalize w.heap.size + 1 + 1 = H at *
  generalize w.heap.size + 1 = G at *
  generalize hF : w.heap.size = F at A hne ⊢
  replace hF := hide hF
  obtain ⟨a0, a1, a2⟩ := A.out.three.1
  obtain ⟨b0, b1, b2⟩ := B.out.three.1
  go_wp2_with fail
  refine (HPL.out _ K.out).mono ?_
  intro e w1 hE
  obtain ⟨r, a, rfl, k1, hr⟩ := hE
  replace A := hide (A.out.keeps k1)
  replace R := hide (R.out.keeps k1)
  replace K := hide (K.out.trans k1)
  clear k1 a0 a1 a2 b0 b1 b2 B HPL
  rcases hr with ⟨rfl, hlt, hk, hn⟩ | ⟨rfl, -, hn⟩
  · have hE := hide (HE1.out a hlt hk hn)
    have hw1 : IntKind.i64.wrap (ch + 1) = ch + 1 := by rw [IntKind.wrap_i64]; omega
    have i1 : ¬ (a : Int) < 0 := by omega
    clear hk hn HE0 HE1
    obtain ⟨a0, a1, a2⟩ := A.out.three.1
    go_wp2_with fail
    refine (HWO.out _ K.out (a : Int) a (.inl ⟨rfl, hlt⟩)).mono ?_
    intro e w2 hE2
    obtain ⟨v', rfl, ho, k1⟩ := hE2
    have hw12 : Hid (w.heap.size ≤ w1.heap.size ∧ F < w1.heap.size ∧ H < w1.heap.size) := ⟨K.out.size, A.out.lt, R.out.lt⟩
    replace A := hide (A.out.keeps k1)
    replace R := hide (R.out.keeps k1)
    replace K := hide (K.out.trans k1)
    clear k1 a0 a1 a2 HWO
    obtain ⟨xa, xc, rfl⟩ := ho.form
    rw [List.length_map]
    rw [List.length_map] at ho
    generalize (zs.eraseIdx a).length = xl at *
    have OW := hide ho
    clear ho
    obtain ⟨⟨a0, a1, a2⟩, ⟨f0, f1, f2⟩, _⟩ := A.out.three
    go_upto_region 6 with fail
    replace A := hide (show Blk ((w2.setCell ⟨F, 1, none⟩ (.slice xa xl xc)).setCell ⟨F, 2, none⟩ (.int .i64 (ch + 1))) F #[.int .i64 room, .slice xa xl xc, .int .i64 (ch + 1)] 29 by have := (A.out.set 1 (.slice xa xl xc)).set 2 (.int .i64 (ch + 1)); simpa using this)
    replace R := hide ((R.out.other (a := ⟨F, 1, none⟩) hne.out (.slice xa xl xc)).other (a := ⟨F, 2, none⟩) hne.out (.int .i64 (ch + 1)))
    replace K := hide ((K.out.setC ⟨F, 1, none⟩ (Nat.le_of_eq hF.out) (.slice xa xl xc)).setC ⟨F, 2, none⟩ (Nat.le_of_eq hF.out) (.int .i64 (ch + 1)))
    replace OW := hide ((OW.out.setOther (a := ⟨F, 1, none⟩) hw12.out.2.1 (.slice xa xl xc)).setOther (a := ⟨F, 2, none⟩) hw12.out.2.1 (.int .i64 (ch + 1)))
    generalize (w2.setCell ⟨F, 1, none⟩ (.slice xa xl xc)).setCell ⟨F, 2, none⟩ (.int .i64 (ch + 1)) = W5 at *
    clear a0 a1 a2 f0 f1 f2
    obtain ⟨a0, a1, a2⟩ := A.out.three.1
    obtain ⟨⟨r0, r1, r2⟩, ⟨f0, f1, f2⟩, _⟩ := R.out.three
    have Y := hide (((R.out.set 0 (.int .i64 room)).set 1 (.slice xa xl xc)).set 2 (.int .i64 (ch + 1)))
    simp at Y
    have K9 := hide (((K.out.setC ⟨H, 0, none⟩ hle.out.2 (.int .i64 room)).setC ⟨H, 1, none⟩ hle.out.2 (.slice xa xl xc)).setC ⟨H, 2, none⟩ hle.out.2 (.int .i64 (ch + 1)))
    have O9 := hide (((OW.out.setOther (a := ⟨H, 0, none⟩) hw12.out.2.2 (.int .i64 room)).setOther (a := ⟨H, 1, none⟩) hw12.out.2.2 (.slice xa xl xc)).setOther (a := ⟨H, 2, none⟩) hw12.out.2.2 (.int .i64 (ch + 1)))
    clear R K
    go_wp2_with fail
    generalize ((W5.setCell ⟨H, 0, none⟩ (.int .i64 room)).setCell ⟨H, 1, none⟩ (.slice xa xl xc)).setCell ⟨H, 2, none⟩ (.int .i64 (ch + 1)) = W9 at *
    obtain ⟨s0, s1, s2⟩ := Y.out.three.1
    exact bodyPost_ret (v := .tuple #[.agg #[.int .i64 room, .slice xa xl xc, .int .i64 (ch + 1)], .bool true]) (by simp [results, Try.results22, go_sem, s0, s1, s2]) rfl (hE.out _ _ _ hw12.out.1 O9.out K9.out)
  · have hE := hide (HE0.out hn)
    have hneg : (-1 : Int) < 0 := by omega
    clear hn HE0 HE1 HWO
    obtain ⟨a0, a1, a2⟩ := A.out.three.1
    go_upto_region 3 with fail
    obtain ⟨⟨r0, r1, r2⟩, ⟨f0, f1, f2⟩, _⟩ := R.out.three
    have Y := hide (((R.out.set 0 (.int .i64 room)).set 1 (.slice va zs.length vc)).set 2 (.int .i64 ch))
    simp at Y
    have K9 := hide (((K.out.setC ⟨H, 0, none⟩ hle.out.2 (.int .i64 room)).setC ⟨H, 1, none⟩ hle.out.2 (.slice va zs.length vc)).setC ⟨H, 2, none⟩ hle.out.2 (.int .i64 ch))
    clear R K
    go_wp2_with fail
    generalize ((w1.setCell ⟨H, 0, none⟩ (.int .i64 room)).setCell ⟨H, 1, none⟩ (.slice va zs.length vc)).setCell ⟨H, 2, none⟩ (.int .i64 ch) = W9 at *
    obtain ⟨s0, s1, s2⟩ := Y.out.three.1
    exact bodyPost_ret (v := .tuple #[.agg #[.int .i64 room, .slice va zs.length vc, .int .i64 ch], .bool false]) (by simp [results, Try.results22, go_sem, s0, s1, s2]) rfl (hE.out _ K9.out)
end Go.Proofs.Ytdlaepfnogmebaa
