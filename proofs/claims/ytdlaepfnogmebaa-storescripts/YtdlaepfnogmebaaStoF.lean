/- The document's store: where a key stands, and all but one. No condition but lengths. -/
import Derived.Test.YtdlaepfnogmebaaStoW
namespace Go.Proofs.Ytdlaepfnogmebaa
open Go.RowKit

def itZ (z : It × Value) : List Value := itL z.1 z.2
theorem itZ_ones (z : It × Value) (h : ∃ a n c, z.2 = .slice a n c) : ∀ u ∈ itZ z, u.oneCell' = true := by
  obtain ⟨a, n, c, h⟩ := h
  intro u hu
  simp only [itZ, itL, List.mem_cons, List.not_mem_nil, or_false] at hu
  rcases hu with rfl | rfl | rfl | rfl | rfl | rfl | rfl
  · rfl
  · rfl
  · rfl
  · rw [h]; rfl
  · rfl
  · rfl
  · rfl
theorem row7z {w : World} {b off n cap : Nat} {zs : List (It × Value)} (h : ReadRow w (.slice (some ⟨b, off, none⟩) n cap) 7 (zs.map itZ)) {j : Nat} (hj : j < zs.length) :
    w.cell? ⟨b, off + j * 7, none⟩ = some (.string zs[j].1.set.key.n) ∧ w.cell? ⟨b, off + j * 7 + 1, none⟩ = some (.int .i64 zs[j].1.set.key.t) ∧ w.cell? ⟨b, off + j * 7 + 2, none⟩ = some (.int .i64 zs[j].1.set.key.c) ∧ w.cell? ⟨b, off + j * 7 + 3, none⟩ = some zs[j].2 ∧ w.cell? ⟨b, off + j * 7 + 4, none⟩ = some (.int .i64 zs[j].1.set.ttl) ∧ w.cell? ⟨b, off + j * 7 + 5, none⟩ = some (.int .i64 zs[j].1.u) ∧ w.cell? ⟨b, off + j * 7 + 6, none⟩ = some (.int .i64 zs[j].1.rank) := by
  obtain ⟨b', off', hb, _, hc⟩ := h.parts (by rw [List.length_map]; omega)
  simp only [Option.some.injEq, Addr.mk.injEq, and_true] at hb
  obtain ⟨rfl, rfl⟩ := hb
  have hj' : j < (zs.map itZ).length := by simpa using hj
  have e : ∀ k, k < 7 → w.cell? ⟨b, off + j * 7 + k, none⟩ = (itZ zs[j])[k]? := fun k hk => by rw [hc j hj' k hk]; simp
  exact ⟨e 0 (by omega), e 1 (by omega), e 2 (by omega), e 3 (by omega), e 4 (by omega), e 5 (by omega), e 6 (by omega)⟩
theorem er_same {α : Type} {l : List α} {j : Nat} (h : j < l.length) : (l.take (j + 1)).eraseIdx j = (l.take j).eraseIdx j := by
  have hl : (l.take j).length = j := by rw [List.length_take]; omega
  have e1 : (l.take j).eraseIdx j = l.take j := List.eraseIdx_of_length_le (by omega)
  rw [e1, List.take_succ_eq_append_getElem h, List.eraseIdx_append_of_length_le (by omega), hl, Nat.sub_self]
  simp
theorem er_other {α : Type} {l : List α} {a j : Nat} (h : j < l.length) (hne : a ≠ j) : (l.take (j + 1)).eraseIdx a = (l.take j).eraseIdx a ++ [l[j]] := by
  have hl : (l.take j).length = j := by rw [List.length_take]; omega
  rw [List.take_succ_eq_append_getElem h]
  by_cases h1 : a < j
  · rw [List.eraseIdx_append_of_lt_length (by omega)]
  · have e1 : (l.take j).eraseIdx a = l.take j := List.eraseIdx_of_length_le (by omega)
    rw [e1]
    exact List.eraseIdx_of_length_le (by rw [List.length_append, hl]; simp; omega)
theorem info14 : (Try.prog.info? 43).map (fun i => (i.zero, i.size, i.bytes)) = some (some (itV noIt (.slice none 0 0)), 7, 80) := by kernel_rfl

set_option maxHeartbeats 8000000 in
set_option maxRecDepth 100000 in
theorem without14_any (v : Value) (zs : List (It × Value)) (at_ : Int) (a : Nat) (w : World) (hv : ReadRow w v 7 (zs.map itZ)) (hz : ∀ z ∈ zs, ∃ a n c, z.2 = .slice a n c) (hl : zs.length ≤ 1000000) (hat : (at_ = a ∧ a < zs.length) ∨ (at_ = -1 ∧ a = zs.length)) :
    Calls Try.prog 67 #[v, .int .i64 at_] w fun e w' => REnd w 43 7 ((zs.eraseIdx a).map itZ) e w' := by
  obtain ⟨va, vc, hvd⟩ := hv.len
  rw [List.length_map] at hvd
  subst hvd
  have RD := hide hv
  have HZ := hide hz
  have HA := hide hat
  clear hv hz hat
  go_enter Try.func67, Try.ntmps67
  go_wp2_with fail
  go_loopw [5, 6] (fun ov i wr => ∃ j : Nat, j ≤ zs.length ∧ i = .int .i64 j ∧ Hid (OwnsR wr w.heap.size 43 7 ov (((zs.take j).eraseIdx a).map itZ)) ∧ Hid (Keeps w wr)) (fun _ i _ => zs.length - (intOf i).toNat)
  case atStart => exact ⟨0, by omega, rfl, hide (by simp; exact OwnsR.nil _ _ _ _), hide (Keeps.refl _)⟩
  case round =>
    obtain ⟨j, hj, rfl, OW, K⟩ := hrel
    by_cases hlt : j < zs.length
    · have i2 : (j : Int) < (zs.length : Int) := by omega
      have i0 : (0 : Int) ≤ (j : Int) := by omega
      by_cases hja : a = j
      · have hbe : ((j : Int) != at_) = false := by
          rcases HA.out with ⟨h, _⟩ | ⟨_, h⟩
          · rw [h, hja]; simp
          · omega
        have hEq : Hid ((zs.take (j + 1)).eraseIdx a = (zs.take j).eraseIdx a) := by rw [Hid, hja]; exact er_same hlt
        replace hja := hide hja
        go_wp2_with fail
        go_roundw
        case rel => exact ⟨j + 1, by omega, by go_num, by rw [hEq.out]; exact OW, K⟩
        case measure => simp [intOf]; omega
      · have hbe : ((j : Int) != at_) = true := by
          rw [bne_iff_ne]
          rcases HA.out with ⟨h, _⟩ | ⟨h, _⟩
          · rw [h]; omega
          · omega
        have HE := hide (er_other hlt hja)
        replace hja := hide hja
        have hv2 := RD.out.keeps K.out
        obtain ⟨b, off, rfl, _, _⟩ := RD.out.parts (by rw [List.length_map]; omega)
        obtain ⟨c0, c1, c2, c3, c4, c5, c6⟩ := row7z hv2 hlt
        obtain ⟨za, zn, zc, hz2⟩ := HZ.out _ (List.getElem_mem hlt)
        have hln : Hid ((((zs.take j).eraseIdx a).map itZ).length ≤ zs.length) := by rw [Hid, List.length_map]; have := List.length_eraseIdx_le (zs.take j) a; rw [List.length_take] at this; omega
        generalize hoo : off + j * 7 = o at *
        generalize zs[j] = z at *
        obtain ⟨z, zd⟩ := z
        simp only at hz2 c0 c1 c2 c3 c4 c5 c6
        subst hz2
        clear hv2
        have hownA := hide (OW.out.alloc (.cells #[.string z.set.key.n, .int .i64 z.set.key.t, .int .i64 z.set.key.c, .slice za zn zc, .int .i64 z.set.ttl, .int .i64 z.u, .int .i64 z.rank] 43))
        clear OW
        have KA := hide (K.out.alloc (.cells #[.string z.set.key.n, .int .i64 z.set.key.t, .int .i64 z.set.key.c, .slice za zn zc, .int .i64 z.set.ttl, .int .i64 z.u, .int .i64 z.rank] 43))
        generalize hLL : ((zs.take j).eraseIdx a).map itZ = LL at *
        go_wp2_with (at_builtin; refine wpList_appR 43 27 7 80 (itV noIt (.slice none 0 0)) _ Try.underlying27 info14 rfl (by decide) rfl _ _ rfl w.heap.size _ _ rfl hownA.out _ _ (itZ (z, .slice za zn zc)) rfl rfl ?c0 ?c1 ?c2 ?c3 ?c4 ?_)
        case c0 => exact itZ_ones _ ⟨za, zn, zc, rfl⟩
        case c1 =>
          intro jj u hu
          exact cells_box wr #[.string z.set.key.n, .int .i64 z.set.key.t, .int .i64 z.set.key.c, .slice za zn zc, .int .i64 z.set.ttl, .int .i64 z.u, .int .i64 z.rank] 43 jj u hu
        case c2 => have := hln.out; unfold maxLen; omega
        case c3 => have := hln.out; omega
        case c4 => exact KA.out.size
        intro v' w5 hown5 hb5 _
        have K5 := hide (show Keeps w w5 from Below.trans KA.out hb5)
        have H5 : Hid (OwnsR w5 w.heap.size 43 7 v' (((zs.take (j + 1)).eraseIdx a).map itZ)) := by rw [Hid, HE.out, List.map_append, hLL]; exact hown5
        clear hown5 hb5
        go_wp2
        go_roundw
        case rel => exact ⟨j + 1, by omega, by go_num, H5, K5⟩
        case measure => simp [intOf]; omega
    · obtain rfl : j = zs.length := by omega
      rw [List.take_length] at OW
      go_wp2
      go_ret
      exact REnd.mk OW.out K.out
/-- Where a key stands. -/
def PlaceEnd (w : World) (zs : List (It × Value)) (q : Qn) (e : Ending) (w' : World) : Prop :=
  ∃ (r : Int) (a : Nat), e = .returned (.int .i64 r) ∧ Keeps w w' ∧ ((r = a ∧ ∃ h : a < zs.length, zs[a].1.set.key = q ∧ ∀ z ∈ zs.take a, z.1.set.key ≠ q) ∨ (r = -1 ∧ a = zs.length ∧ ∀ z ∈ zs, z.1.set.key ≠ q))
set_option maxHeartbeats 8000000 in
set_option maxRecDepth 100000 in
theorem Place14_any (room ch : Int) (v : Value) (zs : List (It × Value)) (q : Qn) (w : World) (hv : ReadRow w v 7 (zs.map itZ)) (hl : zs.length ≤ 1000000) :
    Calls Try.prog 65 #[.agg #[.int .i64 room, v, .int .i64 ch], .agg #[.string q.n, .int .i64 q.t, .int .i64 q.c]] w fun e w' => PlaceEnd w zs q e w' := by
  obtain ⟨va, vc, hvd⟩ := hv.len
  rw [List.length_map] at hvd
  subst hvd
  have RD := hide hv
  clear hv
  have A := hide ((Blk.made w #[.int .i64 room, .slice va zs.length vc, .int .i64 ch] 29).alloc (.cells #[.string q.n, .int .i64 q.t, .int .i64 q.c] 32))
  have B := Blk.made (w.alloc (.cells #[.int .i64 room, .slice va zs.length vc, .int .i64 ch] 29)) #[.string q.n, .int .i64 q.t, .int .i64 q.c] 32
  rw [size_allocG] at B
  replace B := hide B
  have K := hide (((Keeps.refl w).alloc (.cells #[.int .i64 room, .slice va zs.length vc, .int .i64 ch] 29)).alloc (.cells #[.string q.n, .int .i64 q.t, .int .i64 q.c] 32))
  go_enter Try.func65, Try.ntmps65
  go_upto_region 1 with fail
  generalize (w.alloc (.cells #[.int .i64 room, .slice va zs.length vc, .int .i64 ch] 29)).alloc (.cells #[.string q.n, .int .i64 q.t, .int .i64 q.c] 32) = W at *
  generalize w.heap.size + 1 = G at *
  generalize hF : w.heap.size = F at A ⊢
  replace hF := hide hF
  go_wp2_with fail
  go_loopw [5] (fun i wr => ∃ j : Nat, j ≤ zs.length ∧ i = .int .i64 j ∧ Hid (∀ z ∈ zs.take j, z.1.set.key ≠ q) ∧ Hid (Keeps W wr)) (fun i _ => zs.length - (intOf i).toNat)
  case atStart => exact ⟨0, by omega, rfl, by simp [Hid], hide (Keeps.refl _)⟩
  case round =>
    obtain ⟨j, hj, rfl, HN, KW⟩ := hrel
    obtain ⟨a0, a1, a2⟩ := (A.out.keeps KW.out).three.1
    obtain ⟨b0, b1, b2⟩ := (B.out.keeps KW.out).three.1
    by_cases hlt : j < zs.length
    · have i2 : (j : Int) < (zs.length : Int) := by omega
      have i0 : (0 : Int) ≤ (j : Int) := by omega
      have hv2 := RD.out.keeps (K.out.trans KW.out)
      obtain ⟨b, off, rfl, _, _⟩ := RD.out.parts (by rw [List.length_map]; omega)
      obtain ⟨c0, c1, c2, _, _, _, _⟩ := row7z hv2 hlt
      have HTK := hide (show zs.take (j + 1) = zs.take j ++ [zs[j]] from List.take_succ_eq_append_getElem hlt)
      have HF2 : Hid (zs[j].1.set.key = q → ∃ h : j < zs.length, zs[j].1.set.key = q ∧ ∀ z ∈ zs.take j, z.1.set.key ≠ q) := fun e => ⟨hlt, e, HN.out⟩
      have rn := eql_qn zs[j].1.set.key q
      generalize hoo : off + j * 7 = o at *
      by_cases he : zs[j].1.set.key = q
      · rw [decide_eq_true he] at rn
        have HEND := hide (HF2.out he)
        clear HF2 he HTK HN
        generalize zs[j].1.set.key = k at c0 c1 c2 rn
        clear hv2
        go_upto_region 4 with fail
        go_quiet (fail)
        go_wp2
        go_ret
        exact ⟨_, j, rfl, K.out.trans (KW.out.drewN _), .inl ⟨rfl, HEND.out⟩⟩
      · rw [decide_eq_false he] at rn
        have HN2 : Hid (∀ z ∈ zs.take (j + 1), z.1.set.key ≠ q) := fun z hz => by
          rw [HTK.out, List.mem_append, List.mem_singleton] at hz
          rcases hz with hz | rfl
          · exact HN.out z hz
          · exact he
        clear HF2 he HTK HN
        generalize zs[j].1.set.key = k at c0 c1 c2 rn
        clear hv2
        go_upto_region 4 with fail
        go_quiet (fail)
        go_wp2_with fail
        go_roundw
        case rel => exact ⟨j + 1, by omega, by go_num, HN2, hide (KW.out.drewN _)⟩
        case measure => simp [intOf]; omega
    · obtain rfl : j = zs.length := by omega
      rw [List.take_length] at HN
      go_wp2
      go_ret
      exact ⟨-1, zs.length, rfl, K.out.trans KW.out, .inr ⟨rfl, rfl, HN.out⟩⟩
end Go.Proofs.Ytdlaepfnogmebaa
