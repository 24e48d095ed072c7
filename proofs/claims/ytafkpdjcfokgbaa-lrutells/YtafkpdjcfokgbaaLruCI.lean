/- Lists of int: cut, and nobody twice. No condition but lengths. (Made by tools/gen_lru.py.) -/
import Derived.Test.YtafkpdjcfokgbaaLruBI
import Derived.Test.YtafkpdjcfokgbaaCloneI
namespace Go.Proofs.Ytafkpdjcfokgbaa
open Go.RowKit


set_option maxHeartbeats 4000000 in
set_option maxRecDepth 100000 in
theorem Cut_i (v : Value) (l : List Int) (k : Int) (w : World) (hv : ReadRow w v 1 (l.map iv)) (hl : l.length ≤ 1000000) (hk : -9223372036854775808 ≤ k ∧ k ≤ 9223372036854775807) :
    Calls Try.prog 8 #[v, .int .i64 k] w fun e w' => CutEnd w 3 1 ((l.drop (Lr.cutAt l.length k)).map iv) ((l.take (Lr.cutAt l.length k)).map iv) e w' := by
  obtain ⟨a, cap, h1⟩ := hv.len
  rw [List.length_map] at h1
  subst h1
  have hcl := hide (Lr.cutAt_le l.length k)
  have hcv := hide (Lr.cutAt_val l.length k)
  go_enter Try.func8, Try.ntmps8
  obtain ⟨vs, r1, rr1⟩ := slice_lo (t := 22) (e := 3) (by kernel_rfl) (by kernel_rfl) 1 Try.sizeOf3 hv (Lr.cutAt l.length k) (by rw [List.length_map]; exact hcl.out)
  obtain ⟨vt, r2, rr2⟩ := slice_hi (t := 22) (e := 3) (by kernel_rfl) (by kernel_rfl) 1 Try.sizeOf3 hv (Lr.cutAt l.length k) (by rw [List.length_map]; exact hcl.out)
  rw [← List.map_drop] at rr1
  rw [← List.map_take] at rr2
  have HC1 := hide (fun W (kk : Keeps w W) => Clone_i vs _ W (rr1.keeps kk) (fun r hr => by obtain ⟨x, _, rfl⟩ := List.mem_map.1 hr; rfl) (fun r hr u hu => by obtain ⟨x, _, rfl⟩ := List.mem_map.1 hr; exact iv_ones x u hu) (by simp; omega))
  have HC2 := hide (fun W (kk : Keeps w W) => Clone_i vt _ W (rr2.keeps kk) (fun r hr => by obtain ⟨x, _, rfl⟩ := List.mem_map.1 hr; rfl) (fun r hr u hu => by obtain ⟨x, _, rfl⟩ := List.mem_map.1 hr; exact iv_ones x u hu) (by simp; omega))
  have KK : Keeps w w.drew := (Keeps.refl _).drew
  clear rr1 rr2 hv
  rw [hcv.out] at r1 r2
  go_upto_region 2 with fail
  clear hcv hcl
  go_region_held3 (fun _ => True) (trivial) ((first | (go_at_call 26; refine (HC1.out _ KK).mono ?_; intro e w5 hE; obtain ⟨va, rfl, ra, k5⟩ := hE; replace ra := ra.le KK.size; replace KK := Keeps.trans KK k5; clear k5 HC1) | (go_at_call 26; refine (HC2.out _ KK).mono ?_; intro e w6 hE; obtain ⟨vb, rfl, rb, k5⟩ := hE; replace rb := rb.le KK.size; replace KK := Keeps.trans KK k5; replace ra := ra.below k5; clear k5 HC2)))
  go_wp2
  go_ret2
  exact CutEnd.mk ra rb KK


def ChkReli (w : World) (l : List Int) (P : Nat) (i : Value) (wr : World) : Prop :=
  ∃ j : Nat, ∃ f : Int → Option Int, j ≤ l.length ∧ i = .int .i64 j ∧ (l.take j).Nodup ∧ MapAt wr 3 3 i1 P j f ∧ (∀ y, (f y).isSome = true ↔ y ∈ l.take j) ∧ Keeps w wr

set_option maxHeartbeats 4000000 in
set_option maxRecDepth 100000 in
theorem Check_i (v : Value) (l : List Int) (w : World) (hv : ReadRow w v 1 (l.map iv)) (hl : l.length ≤ 1000000) (hin : ∀ x ∈ l, kin_i x) :
    Calls Try.prog 16 #[v] w fun e w' => e = .returned (.bool (decide l.Nodup)) ∧ Keeps w w' := by
  obtain ⟨a, cap, h1⟩ := hv.len
  rw [List.length_map] at h1
  subst h1
  have RD := hide hv
  clear hv
  have hmm : ∀ (n : Int) (W : World), (Instr.makeMap 44 (some (.int .i64 n))).run Try.prog W = .ok (.map (some W.heap.size)) (W.alloc (.map #[] 0)) := fun n W => by
    simp [Instr.makeMap, run_underlying Try.underlying44, asInt, asIntOf]
  have Mp := hide (MapAt.made w 3 3 i1)
  have K0 := hide ((Keeps.refl w).alloc (.map #[] 0))
  go_enter Try.func16, Try.ntmps16
  go_upto_region 2 with fail
  generalize w.alloc (.map #[] 0) = W at *
  have hwle : w.heap.size ≤ w.heap.size := Nat.le_refl _
  generalize hP : w.heap.size = P at Mp ⊢
  go_wp2
  clear hmm
  go_loopw [4, 5, 6, 7, 13] (fun _ _ _ _ i wr => ChkReli w l P i wr) (fun _ _ _ _ i _ => l.length - (intOf i).toNat)
  case atStart => exact ⟨0, fun _ => none, by omega, rfl, by simp, Mp.out, by simp, K0.out⟩
  case round =>
    clear Mp K0
    obtain ⟨j, f, hj, rfl, HND, Mp, HI, K⟩ := hrel
    replace HND := hide HND
    replace Mp := hide Mp
    replace HI := hide HI
    replace K := hide K
    by_cases hlt : j < l.length
    · have i2 : (j : Int) < (l.length : Int) := by omega
      have i0 : (0 : Int) ≤ (j : Int) := by omega
      have hv2 := RD.out.keeps K.out
      obtain ⟨b, off, rfl, _, _⟩ := hv2.parts (by rw [List.length_map]; omega)
      have c0 := row1i hv2 hlt
      have hkx := hin _ (List.getElem_mem hlt)
      have HS3 := hide (lr_nodup_upto l j hlt HND.out)
      have HS4 := hide (lr_nodup_not l j hlt)
      have HTK := hide (show l.take (j + 1) = l.take j ++ [l[j]] from List.take_succ_eq_append_getElem hlt)
      have HIT := hide (fun W => itself_i l[j] W)
      generalize hoo : off + j = o at *
      generalize l[j] = x at *
      clear hv2 hin
      replace hkx := hide hkx
      have HKEY := hide (lr_key_i hkx.out)
      simp only [i1] at c0 HIT
      go_wp2_with fail
      refine (HIT.out _).mono ?_
      rintro e w1 ⟨rfl, k1⟩
      replace Mp := hide (Mp.out.keeps k1)
      replace K := hide (K.out.trans k1)
      clear k1 HIT
      go_wp2_with (at_lookup; refine wpList_look 44 3 3 _ rfl _ _ rfl lr_lawi Try.underlying44 Try.underlying3 lr_zeroI i1 P j f rfl Mp.out x rfl HKEY.out ?_)
      intro c _
      cases hfx : (f x).isSome
      · have hnot : x ∉ l.take j := fun h => by have := (HI.out x).2 h; rw [hfx] at this; cases this
        have HND2 := hide (HS3.out hnot)
        go_wp2_with (at_mapUpdate; refine wpList_put 44 3 3 _ rfl _ _ _ rfl lr_lawi Try.underlying44 Try.underlying3 i1 lr_inj_i P j f rfl Mp.out ?c1 x rfl HKEY.out (j : Int) rfl ?c0 ?_)
        case c0 => omega
        case c1 => unfold maxLen; omega
        intro w7 Mp7 hg7
        have K7 := hide (show Keeps w w7 from Below.grown K.out hg7 K.out.size (fun k hk => by cases hk; omega))
        have HI7 : Hid (∀ y, ((fun y => if y = x then some (j : Int) else f y) y).isSome = true ↔ y ∈ l.take (j + 1)) := fun y => by
          rw [HTK.out, List.mem_append, List.mem_singleton, ← HI.out y]
          by_cases hy : y = x
          · simp [hy]
          · simp [hy]
        go_wp2
        go_roundw
        case rel => exact ⟨j + 1, _, by omega, by go_num, HND2.out, Mp7, HI7.out, K7.out⟩
        case measure => simp [intOf]; omega
      · have HE : Hid (decide l.Nodup = false) := decide_eq_false (HS4.out ((HI.out x).1 hfx))
        go_wp2
        go_ret
        exact ⟨ret_bool HE.out.symm, K.out⟩
    · obtain rfl : j = l.length := by omega
      rw [List.take_length] at HND
      have HE : Hid (decide l.Nodup = true) := decide_eq_true HND.out
      go_wp2
      go_ret
      exact ⟨ret_bool HE.out.symm, K.out⟩
end Go.Proofs.Ytafkpdjcfokgbaa
