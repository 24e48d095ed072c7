/- The document's store: looked into. No condition but lengths. (Made by a script; see NOTES.) -/
import Derived.Test.YtdlaepfnogmebaaStoF
import Derived.Test.YtdlaepfnogmebaaStoX
namespace Go.Proofs.Ytdlaepfnogmebaa
open Go.RowKit

/-- What the document tells of a key. -/
def RTell (zs : List (It × Value)) : Option It → Value → Prop
  | none, vi => vi = itV noIt (.slice none 0 0)
  | some i, vi => ∃ vd, vi = itV i vd ∧ (i, vd) ∈ zs
def RPeekEnd (w : World) (zs : List (It × Value)) (oi : Option It) (e : Ending) (w' : World) : Prop := ∃ vi, e = .returned (.tuple #[vi, .bool oi.isSome]) ∧ RTell zs oi vi ∧ Keeps w w'
def itemsZ (zs : List (It × Value)) : List It := zs.map Prod.fst
theorem find_placed {zs : List (It × Value)} {q : Qn} {a : Nat} (h : a < zs.length) (hk : zs[a].1.set.key = q) (hn : ∀ z ∈ zs.take a, z.1.set.key ≠ q) : Sto.find (itemsZ zs) q = some zs[a].1 := by
  have e : zs = zs.take a ++ zs[a] :: zs.drop (a + 1) := by rw [← List.drop_eq_getElem_cons h, List.take_append_drop]
  have h1 : Sto.find (itemsZ (zs.take a)) q = none := by
    rw [Sto.find_none]
    unfold Sto.keysL itemsZ
    rw [List.map_map, List.mem_map]
    rintro ⟨z, hz, hq⟩
    exact hn z hz hq
  have h2 : itemsZ zs = itemsZ (zs.take a) ++ zs[a].1 :: itemsZ (zs.drop (a + 1)) := by
    refine (congrArg itemsZ e).trans ?_
    show List.map Prod.fst (zs.take a ++ zs[a] :: zs.drop (a + 1)) = _
    rw [List.map_append, List.map_cons]
    rfl
  rw [h2, Sto.find_append, h1, Option.none_or]
  unfold Sto.find
  simp [hk]
theorem find_unplaced {zs : List (It × Value)} {q : Qn} (hn : ∀ z ∈ zs, z.1.set.key ≠ q) : Sto.find (itemsZ zs) q = none := by
  rw [Sto.find_none]
  unfold Sto.keysL itemsZ
  rw [List.map_map, List.mem_map]
  rintro ⟨z, hz, hq⟩
  exact hn z hz hq
def peekL (zs : List (It × Value)) (now : Int) (q : Qn) : Option It := (Sto.find (itemsZ zs) q).filter (fun i => Ag.live now i.u)

set_option maxHeartbeats 16000000 in
set_option maxRecDepth 100000 in
theorem rPeek_any (room ch now : Int) (v : Value) (zs : List (It × Value)) (q : Qn) (w : World) (hv : ReadRow w v 7 (zs.map itZ)) (hz : ∀ z ∈ zs, ∃ a n c, z.2 = .slice a n c) (hl : zs.length ≤ 1000000) :
    Calls Try.prog 20 #[.agg #[.int .i64 room, v, .int .i64 ch], .int .i64 now, .agg #[.string q.n, .int .i64 q.t, .int .i64 q.c]] w fun e w' => RPeekEnd w zs (peekL zs now q) e w' := by
  have HPL := hide (fun W (k : Keeps w W) => Place14_any room ch v zs q W (hv.keeps k) hl)
  obtain ⟨va, vc, hvd⟩ := hv.len
  rw [List.length_map] at hvd
  subst hvd
  have RD := hide hv
  have HZ := hide hz
  clear hv hz
  have HE1 : Hid (∀ (a : Nat) (h : a < zs.length), zs[a].1.set.key = q → (∀ z ∈ zs.take a, z.1.set.key ≠ q) → ∀ W, Keeps w W → (Ag.live now zs[a].1.u = true → RPeekEnd w zs (peekL zs now q) (.returned (.tuple #[itV zs[a].1 zs[a].2, .bool true])) W) ∧ (Ag.live now zs[a].1.u = false → RPeekEnd w zs (peekL zs now q) (.returned (.tuple #[itV noIt (.slice none 0 0), .bool false])) W)) := fun a h hk hn W k => by
    have hf := find_placed h hk hn
    refine ⟨fun hl => ?_, fun hl => ?_⟩
    · have e : peekL zs now q = some zs[a].1 := by unfold peekL; rw [hf]; simp [Option.filter, hl]
      rw [e]
      exact ⟨_, rfl, ⟨zs[a].2, rfl, List.getElem_mem h⟩, k⟩
    · have e : peekL zs now q = none := by unfold peekL; rw [hf]; simp [Option.filter, hl]
      rw [e]
      exact ⟨_, rfl, rfl, k⟩
  have HE0 : Hid ((∀ z ∈ zs, z.1.set.key ≠ q) → ∀ W, Keeps w W → RPeekEnd w zs (peekL zs now q) (.returned (.tuple #[itV noIt (.slice none 0 0), .bool false])) W) := fun hn W k => by
    have e : peekL zs now q = none := by unfold peekL; rw [find_unplaced hn]; rfl
    rw [e]
    exact ⟨_, rfl, rfl, k⟩
  generalize peekL zs now q = OI at *
  have A := hide (((Blk.made w #[.int .i64 room, .slice va zs.length vc, .int .i64 ch] 29).alloc (.cells #[.string q.n, .int .i64 q.t, .int .i64 q.c] 32)).alloc (.cells #[.string ⟨#[]⟩, .int .i64 0, .int .i64 0, .slice none 0 0, .int .i64 0, .int .i64 0, .int .i64 0] 43))
  have B := (Blk.made (w.alloc (.cells #[.int .i64 room, .slice va zs.length vc, .int .i64 ch] 29)) #[.string q.n, .int .i64 q.t, .int .i64 q.c] 32).alloc (.cells #[.string ⟨#[]⟩, .int .i64 0, .int .i64 0, .slice none 0 0, .int .i64 0, .int .i64 0, .int .i64 0] 43)
  have R := Blk.made ((w.alloc (.cells #[.int .i64 room, .slice va zs.length vc, .int .i64 ch] 29)).alloc (.cells #[.string q.n, .int .i64 q.t, .int .i64 q.c] 32)) #[.string ⟨#[]⟩, .int .i64 0, .int .i64 0, .slice none 0 0, .int .i64 0, .int .i64 0, .int .i64 0] 43
  rw [size_allocG] at B
  rw [size_allocG, size_allocG] at R
  replace B := hide B
  replace R := hide R
  have K := hide ((((Keeps.refl w).alloc (.cells #[.int .i64 room, .slice va zs.length vc, .int .i64 ch] 29)).alloc (.cells #[.string q.n, .int .i64 q.t, .int .i64 q.c] 32)).alloc (.cells #[.string ⟨#[]⟩, .int .i64 0, .int .i64 0, .slice none 0 0, .int .i64 0, .int .i64 0, .int .i64 0] 43))
  go_enter Try.func20, Try.ntmps20
  go_upto_region 1 with fail
  generalize ((w.alloc (.cells #[.int .i64 room, .slice va zs.length vc, .int .i64 ch] 29)).alloc (.cells #[.string q.n, .int .i64 q.t, .int .i64 q.c] 32)).alloc (.cells #[.string ⟨#[]⟩, .int .i64 0, .int .i64 0, .slice none 0 0, .int .i64 0, .int .i64 0, .int .i64 0] 43) = W at *
  have hle : Hid (w.heap.size ≤ w.heap.size + 1 + 1) := by rw [Hid]; omega
  generalize w.heap.size + 1 + 1 = H at *
  generalize w.heap.size + 1 = G at *
  generalize hF : w.heap.size = F at A ⊢
  replace hF := hide hF
  obtain ⟨a0, a1, a2⟩ := A.out.three.1
  obtain ⟨b0, b1, b2⟩ := B.out.three.1
  go_wp2_with fail
  refine (HPL.out _ K.out).mono ?_
  intro e w1 hE
  obtain ⟨r, a, rfl, k1, hr⟩ := hE
  replace A := hide (A.out.keeps k1)
  replace R := hide (R.out.keeps k1)
  replace K := hide (K.out.trans k1)
  clear k1 a0 a1 a2 b0 b1 b2 B HPL
  obtain ⟨a0, a1, a2⟩ := A.out.three.1
  rcases hr with ⟨rfl, hlt, hk, hn⟩ | ⟨rfl, _, hn⟩
  · have hE := HE1.out a hlt hk hn
    have hv2 := RD.out.keeps K.out
    obtain ⟨b, off, rfl, -, -⟩ := RD.out.parts (by rw [List.length_map]; omega)
    obtain ⟨c0, c1, c2, c3, c4, c5, c6⟩ := row7z hv2 hlt
    obtain ⟨za, zn, zc, hz2⟩ := HZ.out _ (List.getElem_mem hlt)
    have i2 : (a : Int) < (zs.length : Int) := by omega
    have i0 : (0 : Int) ≤ (a : Int) := by omega
    have i1 : ¬ (a : Int) < 0 := by omega
    have im : max (a : Int) 0 = (a : Int) := by omega
    generalize hoo : off + a * 7 = o at *
    generalize zs[a] = z at *
    obtain ⟨z, zd⟩ := z
    simp only at hz2 c0 c1 c2 c3 c4 c5 c6 hE
    subst hz2
    clear hv2 hk hn HE0 HE1
    have HEX := hide hE
    clear hE
    go_wp2_with fail
    refine (refAgeLive_any now z.u _).mono ?_
    rintro e w2 ⟨rfl, rfl⟩
    cases hlv : Ag.live now z.u
    · obtain ⟨⟨r0, r1, r2, r3, r4, r5, r6⟩, ⟨g0, g1, g2, g3, g4, g5, g6⟩, _⟩ := R.out.seven
      have R3 := hide (set7_blk R.out (.string ⟨#[]⟩) (.int .i64 0) (.int .i64 0) (.slice none 0 0) (.int .i64 0) (.int .i64 0) (.int .i64 0))
      have K3 := hide (set7_keeps K.out hle.out (.string ⟨#[]⟩) (.int .i64 0) (.int .i64 0) (.slice none 0 0) (.int .i64 0) (.int .i64 0) (.int .i64 0))
      unfold set7 at R3 K3
      clear R K
      have hEE := hide ((HEX.out _ K3.out).2 hlv)
      clear HEX
      go_wp2_with fail
      generalize ((((((w2.setCell ⟨H, 0, none⟩ (.string ⟨#[]⟩)).setCell ⟨H, 1, none⟩ (.int .i64 0)).setCell ⟨H, 2, none⟩ (.int .i64 0)).setCell ⟨H, 3, none⟩ (.slice none 0 0)).setCell ⟨H, 4, none⟩ (.int .i64 0)).setCell ⟨H, 5, none⟩ (.int .i64 0)).setCell ⟨H, 6, none⟩ (.int .i64 0) = W9 at *
      obtain ⟨s0, s1, s2, s3, s4, s5, s6⟩ := R3.out.seven.1
      exact bodyPost_ret (v := .tuple #[itV noIt (.slice none 0 0), .bool false]) (by simp [results, Try.results20, go_sem, s0, s1, s2, s3, s4, s5, s6, itV, noIt, noSt, noQn]) rfl hEE.out
    · go_upto_region 4 with fail
      obtain ⟨⟨r0, r1, r2, r3, r4, r5, r6⟩, ⟨g0, g1, g2, g3, g4, g5, g6⟩, _⟩ := R.out.seven
      have R3 := hide (set7_blk R.out (.string z.set.key.n) (.int .i64 z.set.key.t) (.int .i64 z.set.key.c) (.slice za zn zc) (.int .i64 z.set.ttl) (.int .i64 z.u) (.int .i64 z.rank))
      have K3 := hide (set7_keeps K.out hle.out (.string z.set.key.n) (.int .i64 z.set.key.t) (.int .i64 z.set.key.c) (.slice za zn zc) (.int .i64 z.set.ttl) (.int .i64 z.u) (.int .i64 z.rank))
      unfold set7 at R3 K3
      clear R K
      have hEE := hide ((HEX.out _ K3.out).1 hlv)
      clear HEX
      go_wp2_with fail
      generalize ((((((w2.setCell ⟨H, 0, none⟩ (.string z.set.key.n)).setCell ⟨H, 1, none⟩ (.int .i64 z.set.key.t)).setCell ⟨H, 2, none⟩ (.int .i64 z.set.key.c)).setCell ⟨H, 3, none⟩ (.slice za zn zc)).setCell ⟨H, 4, none⟩ (.int .i64 z.set.ttl)).setCell ⟨H, 5, none⟩ (.int .i64 z.u)).setCell ⟨H, 6, none⟩ (.int .i64 z.rank) = W9 at *
      obtain ⟨s0, s1, s2, s3, s4, s5, s6⟩ := R3.out.seven.1
      exact bodyPost_ret (v := .tuple #[itV z (.slice za zn zc), .bool true]) (by simp [results, Try.results20, go_sem, s0, s1, s2, s3, s4, s5, s6, itV]) rfl hEE.out
  · have hneg : (-1 : Int) < 0 := by omega
    have HEX := hide (HE0.out hn)
    clear hn HE0 HE1
    obtain ⟨⟨r0, r1, r2, r3, r4, r5, r6⟩, ⟨g0, g1, g2, g3, g4, g5, g6⟩, _⟩ := R.out.seven
    have R3 := hide (set7_blk R.out (.string ⟨#[]⟩) (.int .i64 0) (.int .i64 0) (.slice none 0 0) (.int .i64 0) (.int .i64 0) (.int .i64 0))
    have K3 := hide (set7_keeps K.out hle.out (.string ⟨#[]⟩) (.int .i64 0) (.int .i64 0) (.slice none 0 0) (.int .i64 0) (.int .i64 0) (.int .i64 0))
    unfold set7 at R3 K3
    clear R K
    have hEE := hide (HEX.out _ K3.out)
    clear HEX
    go_wp2_with fail
    generalize ((((((w1.setCell ⟨H, 0, none⟩ (.string ⟨#[]⟩)).setCell ⟨H, 1, none⟩ (.int .i64 0)).setCell ⟨H, 2, none⟩ (.int .i64 0)).setCell ⟨H, 3, none⟩ (.slice none 0 0)).setCell ⟨H, 4, none⟩ (.int .i64 0)).setCell ⟨H, 5, none⟩ (.int .i64 0)).setCell ⟨H, 6, none⟩ (.int .i64 0) = W9 at *
    obtain ⟨s0, s1, s2, s3, s4, s5, s6⟩ := R3.out.seven.1
    exact bodyPost_ret (v := .tuple #[itV noIt (.slice none 0 0), .bool false]) (by simp [results, Try.results20, go_sem, s0, s1, s2, s3, s4, s5, s6, itV, noIt, noSt, noQn]) rfl hEE.out
end Go.Proofs.Ytdlaepfnogmebaa
