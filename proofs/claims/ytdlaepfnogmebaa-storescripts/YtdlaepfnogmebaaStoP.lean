/- The document's store: something is got. No condition but lengths. (Made by tools/genrget14.py.) -/
import Derived.Test.YtdlaepfnogmebaaStoN
namespace Go.Proofs.Ytdlaepfnogmebaa
open Go.RowKit

theorem Blk.c3 {w : World} {G : Nat} {u0 u1 u2 : Value} {ty : TypeId} (h : Blk w G #[u0, u1, u2] ty) :
    (w.cell? ⟨G, 0, none⟩ = some u0 ∧ w.cell? ⟨G, 1, none⟩ = some u1 ∧ w.cell? ⟨G, 2, none⟩ = some u2) ∧
    (w.frozen? ⟨G, 0, none⟩ = false ∧ w.frozen? ⟨G, 1, none⟩ = false ∧ w.frozen? ⟨G, 2, none⟩ = false) ∧ G < w.heap.size :=
  ⟨⟨h.cell 0, h.cell 1, h.cell 2⟩, ⟨h.frozen 0, h.frozen 1, h.frozen 2⟩, h.lt⟩
def set3 (W : World) (G : Nat) (u0 u1 u2 : Value) : World := ((W.setCell ⟨G, 0, none⟩ u0).setCell ⟨G, 1, none⟩ u1).setCell ⟨G, 2, none⟩ u2
theorem set3_blk {W : World} {G : Nat} {z0 z1 z2 : Value} {ty : TypeId} (h : Blk W G #[z0, z1, z2] ty) (u0 u1 u2 : Value) : Blk (set3 W G u0 u1 u2) G #[u0, u1, u2] ty := by
  have h0 := h.set 0 u0
  have h1 := h0.set 1 u1
  have h2 := h1.set 2 u2
  simp at h2
  exact h2
theorem set3_keeps {w W : World} (K : Keeps w W) {G : Nat} (hle : w.heap.size ≤ G) (u0 u1 u2 : Value) : Keeps w (set3 W G u0 u1 u2) :=
  ((K.setC _ hle _).setC _ hle _).setC _ hle _
theorem OwnsR.set3 {w : World} {B : Nat} {ty : TypeId} {cc : Nat} {v : Value} {rows : List (List Value)} (h : OwnsR w B ty cc v rows) {G : Nat} (hG : G < B) (u0 u1 u2 : Value) : OwnsR (set3 w G u0 u1 u2) B ty cc v rows :=
  ((h.setOther (a := ⟨G, 0, none⟩) hG u0).setOther (a := ⟨G, 1, none⟩) hG u1).setOther (a := ⟨G, 2, none⟩) hG u2
theorem heap_set3 (W : World) (G : Nat) (u0 u1 u2 : Value) (k : Nat) (hk : k ≠ G) : (set3 W G u0 u1 u2).heap[k]? = W.heap[k]? := by
  unfold set3
  rw [Below.heap_setCell _ _ _ _ hk, Below.heap_setCell _ _ _ _ hk, Below.heap_setCell _ _ _ _ hk]
theorem set3_below {B : Nat} {w W : World} (K : Below B w W) {G : Nat} (hle : B ≤ G) (u0 u1 u2 : Value) : Below B w (set3 W G u0 u1 u2) :=
  Below.setCell (Below.setCell (Below.setCell K (p := ⟨G, 0, none⟩) hle u0) (p := ⟨G, 1, none⟩) hle u1) (p := ⟨G, 2, none⟩) hle u2

/-- The items of what was got from. -/
def getL (l : List It) (now : Int) (q : Qn) : List It := match (Sto.find l q).filter (fun i => Ag.live now i.u) with | some i => Sto.without l q ++ [i] | none => l
def RGetEnd (w : World) (room ch now : Int) (v : Value) (zs : List (It × Value)) (q : Qn) (e : Ending) (w' : World) : Prop :=
  ∃ v' zs' vi, e = .returned (.tuple #[.agg #[.int .i64 room, v', .int .i64 ch], vi, .bool (peekL zs now q).isSome]) ∧ RTell zs (peekL zs now q) vi ∧ ReadRow w' v' 7 (zs'.map itZ) ∧ itemsZ zs' = getL (itemsZ zs) now q ∧ (∀ z ∈ zs', z ∈ zs) ∧ NewOr w.heap.size v v' ∧ Keeps w w'
theorem RTell.see {zs : List (It × Value)} (hz : ∀ z ∈ zs, ∃ a n c, z.2 = .slice a n c) {oi : Option It} {vi : Value} (h : RTell zs oi vi) : ∃ x a n c, vi = itV x (.slice a n c) ∧ x = oi.getD noIt ∧ (oi.isSome = true → (x, Value.slice a n c) ∈ zs) := by
  cases oi with
  | none => exact ⟨noIt, none, 0, 0, h, rfl, fun e => by cases e⟩
  | some i =>
    obtain ⟨vd, rfl, hm⟩ := h
    obtain ⟨a, n, c, e⟩ := hz _ hm
    simp only at e
    subst e
    exact ⟨i, a, n, c, rfl, rfl, fun _ => hm⟩

set_option maxHeartbeats 16000000 in
set_option maxRecDepth 100000 in
theorem rGet_any (room ch now : Int) (v : Value) (zs : List (It × Value)) (q : Qn) (w : World) (hv : ReadRow w v 7 (zs.map itZ)) (hz : ∀ z ∈ zs, ∃ a n c, z.2 = .slice a n c) (hl : zs.length ≤ 1000000) (hnd : (Sto.keysL (itemsZ zs)).Nodup) :
    Calls Try.prog 16 #[.agg #[.int .i64 room, v, .int .i64 ch], .int .i64 now, .agg #[.string q.n, .int .i64 q.t, .int .i64 q.c]] w fun e w' => RGetEnd w room ch now v zs q e w' := by
  have HPK := hide (fun W (k : Keeps w W) => rPeek_any room ch now v zs q W (hv.keeps k) hz hl)
  have HPL := hide (fun W (k : Keeps w W) => Place14_any room ch v zs q W (hv.keeps k) hl)
  have HWO := hide (fun W (k : Keeps w W) at_ a hat => without14_any v zs at_ a W (hv.keeps k) hz hl hat)
  have HP1 : Hid (∀ i, peekL zs now q = some i → ∀ (r : Int) (a : Nat), ((r = a ∧ ∃ h : a < zs.length, zs[a].1.set.key = q ∧ ∀ z ∈ zs.take a, z.1.set.key ≠ q) ∨ (r = -1 ∧ a = zs.length ∧ ∀ z ∈ zs, z.1.set.key ≠ q)) → r = a ∧ a < zs.length ∧ itemsZ (zs.eraseIdx a) = Sto.without (itemsZ zs) q) := fun i hi r a hr => by
    rcases hr with ⟨h1, h2, h3, h4⟩ | ⟨h1, h2, h3⟩
    · exact ⟨h1, h2, without_placed hnd h2 h3⟩
    · unfold peekL at hi
      rw [find_unplaced h3] at hi
      cases hi
  have HSEE := hide (fun vi (h : RTell zs (peekL zs now q) vi) => RTell.see hz h)
  have RD := hide hv
  have HG : Hid (getL (itemsZ zs) now q = match peekL zs now q with | some i => Sto.without (itemsZ zs) q ++ [i] | none => itemsZ zs) := rfl
  obtain ⟨va, vc, hvd⟩ := hv.len
  rw [List.length_map] at hvd
  subst hvd
  clear hv hz hnd
  have HEND : Hid (∀ v' zs' vi W, RTell zs (peekL zs now q) vi → ReadRow W v' 7 (zs'.map itZ) → itemsZ zs' = getL (itemsZ zs) now q → (∀ z ∈ zs', z ∈ zs) → NewOr w.heap.size (.slice va zs.length vc) v' → Keeps w W → RGetEnd w room ch now (.slice va zs.length vc) zs q (.returned (.tuple #[.agg #[.int .i64 room, v', .int .i64 ch], vi, .bool (peekL zs now q).isSome])) W) := fun v' zs' vi W h1 h2 h3 h4 h5 h6 => ⟨v', zs', vi, rfl, h1, h2, h3, h4, h5, h6⟩
  generalize getL (itemsZ zs) now q = GL at *
  generalize peekL zs now q = OI at *
  have A := hide ((((Blk.made w #[.int .i64 room, .slice va zs.length vc, .int .i64 ch] 29).alloc (.cells #[.string q.n, .int .i64 q.t, .int .i64 q.c] 32)).alloc (.cells #[.int .i64 0, .slice none 0 0, .int .i64 0] 29)).alloc (.cells #[.string ⟨#[]⟩, .int .i64 0, .int .i64 0, .slice none 0 0, .int .i64 0, .int .i64 0, .int .i64 0] 43))
  have B := ((Blk.made (w.alloc (.cells #[.int .i64 room, .slice va zs.length vc, .int .i64 ch] 29)) #[.string q.n, .int .i64 q.t, .int .i64 q.c] 32).alloc (.cells #[.int .i64 0, .slice none 0 0, .int .i64 0] 29)).alloc (.cells #[.string ⟨#[]⟩, .int .i64 0, .int .i64 0, .slice none 0 0, .int .i64 0, .int .i64 0, .int .i64 0] 43)
  have R := (Blk.made ((w.alloc (.cells #[.int .i64 room, .slice va zs.length vc, .int .i64 ch] 29)).alloc (.cells #[.string q.n, .int .i64 q.t, .int .i64 q.c] 32)) #[.int .i64 0, .slice none 0 0, .int .i64 0] 29).alloc (.cells #[.string ⟨#[]⟩, .int .i64 0, .int .i64 0, .slice none 0 0, .int .i64 0, .int .i64 0, .int .i64 0] 43)
  have R7 := Blk.made (((w.alloc (.cells #[.int .i64 room, .slice va zs.length vc, .int .i64 ch] 29)).alloc (.cells #[.string q.n, .int .i64 q.t, .int .i64 q.c] 32)).alloc (.cells #[.int .i64 0, .slice none 0 0, .int .i64 0] 29)) #[.string ⟨#[]⟩, .int .i64 0, .int .i64 0, .slice none 0 0, .int .i64 0, .int .i64 0, .int .i64 0] 43
  rw [size_allocG] at B
  rw [size_allocG, size_allocG] at R
  rw [size_allocG, size_allocG, size_allocG] at R7
  replace B := hide B
  replace R := hide R
  replace R7 := hide R7
  have K := hide (((((Keeps.refl w).alloc (.cells #[.int .i64 room, .slice va zs.length vc, .int .i64 ch] 29)).alloc (.cells #[.string q.n, .int .i64 q.t, .int .i64 q.c] 32)).alloc (.cells #[.int .i64 0, .slice none 0 0, .int .i64 0] 29)).alloc (.cells #[.string ⟨#[]⟩, .int .i64 0, .int .i64 0, .slice none 0 0, .int .i64 0, .int .i64 0, .int .i64 0] 43))
  go_enter Try.func16, Try.ntmps16
  go_upto_region 1 with fail
  generalize (((w.alloc (.cells #[.int .i64 room, .slice va zs.length vc, .int .i64 ch] 29)).alloc (.cells #[.string q.n, .int .i64 q.t, .int .i64 q.c] 32)).alloc (.cells #[.int .i64 0, .slice none 0 0, .int .i64 0] 29)).alloc (.cells #[.string ⟨#[]⟩, .int .i64 0, .int .i64 0, .slice none 0 0, .int .i64 0, .int .i64 0, .int .i64 0] 43) = W at *
  have hle : Hid (w.heap.size ≤ w.heap.size + 1 + 1 ∧ w.heap.size ≤ w.heap.size + 1 + 1 + 1) := by rw [Hid]; omega
  have hne : Hid (w.heap.size ≠ w.heap.size + 1 + 1 ∧ w.heap.size ≠ w.heap.size + 1 + 1 + 1 ∧ w.heap.size + 1 + 1 ≠ w.heap.size + 1 + 1 + 1) := by rw [Hid]; omega
  generalize w.heap.size + 1 + 1 + 1 = J at *
  generalize w.heap.size + 1 + 1 = H at *
  generalize w.heap.size + 1 = G at *
  generalize hF : w.heap.size = F at A hne ⊢
  replace hF := hide hF
  obtain ⟨a0, a1, a2⟩ := A.out.three.1
  obtain ⟨b0, b1, b2⟩ := B.out.three.1
  go_wp2_with fail
  refine (HPK.out _ K.out).mono ?_
  intro e w1 hE
  obtain ⟨vi, rfl, hrt, k1⟩ := hE
  obtain ⟨x, xa, xl, xc, rfl, hxx, hxm⟩ := HSEE.out vi hrt
  have HRT := hide hrt
  replace hxx := hide hxx
  replace hxm := hide hxm
  have hNH : Hid (w1.heap.size ≠ H ∧ w1.heap.size ≠ J ∧ w1.heap.size ≠ F) := by
    have h1 := (R7.out.keeps k1).lt
    have h2 := (R.out.keeps k1).lt
    have h3 := (A.out.keeps k1).lt
    rw [Hid]; omega
  replace A := hide ((A.out.keeps k1).alloc (.cells #[.string x.set.key.n, .int .i64 x.set.key.t, .int .i64 x.set.key.c, .slice xa xl xc, .int .i64 x.set.ttl, .int .i64 x.u, .int .i64 x.rank] 43))
  replace B := hide ((B.out.keeps k1).alloc (.cells #[.string x.set.key.n, .int .i64 x.set.key.t, .int .i64 x.set.key.c, .slice xa xl xc, .int .i64 x.set.ttl, .int .i64 x.u, .int .i64 x.rank] 43))
  replace R := hide ((R.out.keeps k1).alloc (.cells #[.string x.set.key.n, .int .i64 x.set.key.t, .int .i64 x.set.key.c, .slice xa xl xc, .int .i64 x.set.ttl, .int .i64 x.u, .int .i64 x.rank] 43))
  replace R7 := hide ((R7.out.keeps k1).alloc (.cells #[.string x.set.key.n, .int .i64 x.set.key.t, .int .i64 x.set.key.c, .slice xa xl xc, .int .i64 x.set.ttl, .int .i64 x.u, .int .i64 x.rank] 43))
  replace K := hide ((K.out.trans k1).alloc (.cells #[.string x.set.key.n, .int .i64 x.set.key.t, .int .i64 x.set.key.c, .slice xa xl xc, .int .i64 x.set.ttl, .int .i64 x.u, .int .i64 x.rank] 43))
  have I := hide (Blk.made w1 #[.string x.set.key.n, .int .i64 x.set.key.t, .int .i64 x.set.key.c, .slice xa xl xc, .int .i64 x.set.ttl, .int .i64 x.u, .int .i64 x.rank] 43)
  clear k1 a0 a1 a2 b0 b1 b2 hrt HSEE HPK
  unfold itV at HRT ⊢
  go_upto_region 2 with fail
  generalize w1.alloc (.cells #[.string x.set.key.n, .int .i64 x.set.key.t, .int .i64 x.set.key.c, .slice xa xl xc, .int .i64 x.set.ttl, .int .i64 x.u, .int .i64 x.rank] 43) = W2 at *
  generalize w1.heap.size = N at *
  cases OI with
  | none =>
    simp only [Option.isSome_none]
    obtain ⟨⟨a0, a1, a2⟩, _, _⟩ := A.out.three
    obtain ⟨⟨r0, r1, r2⟩, ⟨f0, f1, f2⟩, _⟩ := R.out.three
    obtain ⟨⟨i0, i1, i2, i3, i4, i5, i6⟩, _, _⟩ := I.out.seven
    obtain ⟨⟨j0, j1, j2, j3, j4, j5, j6⟩, ⟨g0, g1, g2, g3, g4, g5, g6⟩, _⟩ := R7.out.seven
    go_upto_region 6 with fail
    obtain ⟨d1, d2, d3⟩ := hne.out
    obtain ⟨d4, d5, d6⟩ := hNH.out
    have e1 := d1.symm
    have e2 := d2.symm
    have e3 := d3.symm
    have e4 := d4.symm
    have e5 := d5.symm
    have e6 := d6.symm
    go_region
    have RH := hide (show Blk (set7 (set3 W2 H (.int .i64 room) (.slice va zs.length vc) (.int .i64 ch)) J (.string x.set.key.n) (.int .i64 x.set.key.t) (.int .i64 x.set.key.c) (.slice xa xl xc) (.int .i64 x.set.ttl) (.int .i64 x.u) (.int .i64 x.rank)) H _ _ from (heap_set7 _ J (.string x.set.key.n) (.int .i64 x.set.key.t) (.int .i64 x.set.key.c) (.slice xa xl xc) (.int .i64 x.set.ttl) (.int .i64 x.u) (.int .i64 x.rank) H d3).trans (set3_blk R.out (.int .i64 room) (.slice va zs.length vc) (.int .i64 ch))).drew
    have RJ := hide (set7_blk (show Blk (set3 W2 H (.int .i64 room) (.slice va zs.length vc) (.int .i64 ch)) J _ _ from (heap_set3 W2 H (.int .i64 room) (.slice va zs.length vc) (.int .i64 ch) J e3).trans R7.out) (.string x.set.key.n) (.int .i64 x.set.key.t) (.int .i64 x.set.key.c) (.slice xa xl xc) (.int .i64 x.set.ttl) (.int .i64 x.u) (.int .i64 x.rank)).drew
    have K9 := hide (set7_keeps (set3_keeps K.out hle.out.1 (.int .i64 room) (.slice va zs.length vc) (.int .i64 ch)) hle.out.2 (.string x.set.key.n) (.int .i64 x.set.key.t) (.int .i64 x.set.key.c) (.slice xa xl xc) (.int .i64 x.set.ttl) (.int .i64 x.u) (.int .i64 x.rank)).drew
    unfold set7 set3 at RH RJ K9
    go_wp2_with fail
    generalize ((((((((((W2.setCell ⟨H, 0, none⟩ (.int .i64 room)).setCell ⟨H, 1, none⟩ (.slice va zs.length vc)).setCell ⟨H, 2, none⟩ (.int .i64 ch)).setCell ⟨J, 0, none⟩ (.string x.set.key.n)).setCell ⟨J, 1, none⟩ (.int .i64 x.set.key.t)).setCell ⟨J, 2, none⟩ (.int .i64 x.set.key.c)).setCell ⟨J, 3, none⟩ (.slice xa xl xc)).setCell ⟨J, 4, none⟩ (.int .i64 x.set.ttl)).setCell ⟨J, 5, none⟩ (.int .i64 x.u)).setCell ⟨J, 6, none⟩ (.int .i64 x.rank)).drew = W9 at *
    obtain ⟨s0, s1, s2⟩ := RH.out.three.1
    obtain ⟨t0, t1, t2, t3, t4, t5, t6⟩ := RJ.out.seven.1
    exact bodyPost_ret (v := .tuple #[.agg #[.int .i64 room, .slice va zs.length vc, .int .i64 ch], .agg #[.string x.set.key.n, .int .i64 x.set.key.t, .int .i64 x.set.key.c, .slice xa xl xc, .int .i64 x.set.ttl, .int .i64 x.u, .int .i64 x.rank], .bool false]) (by simp [results, Try.results16, go_sem, s0, s1, s2, t0, t1, t2, t3, t4, t5, t6]) rfl (HEND.out _ zs _ _ HRT.out (RD.out.keeps K9.out) HG.out.symm (fun z h => h) (.inl rfl) K9.out)
  | some i =>
    simp only [Option.isSome_some]
    have hxi : x = i := hxx.out
    subst hxi
    have HP := hide (HP1.out x rfl)
    have hmem := hide (hxm.out rfl)
    have HGL : Hid (GL = Sto.without (itemsZ zs) q ++ [x]) := HG.out
    clear HP1 hxx hxm HG
    have HT : Hid (∀ w', Keeps W2.drew w' → w'.cell? ⟨F, 0, none⟩ = some (.int .i64 room) ∧ w'.cell? ⟨F, 1, none⟩ = some (.slice va zs.length vc) ∧ w'.cell? ⟨F, 2, none⟩ = some (.int .i64 ch) ∧ w'.cell? ⟨G, 0, none⟩ = some (.string q.n) ∧ w'.cell? ⟨G, 1, none⟩ = some (.int .i64 q.t) ∧ w'.cell? ⟨G, 2, none⟩ = some (.int .i64 q.c)) := fun w' k => ⟨(A.out.drew.keeps k).cell 0, (A.out.drew.keeps k).cell 1, (A.out.drew.keeps k).cell 2, (B.out.drew.keeps k).cell 0, (B.out.drew.keeps k).cell 1, (B.out.drew.keeps k).cell 2⟩
    have T := HT.out _ (Keeps.refl _)
    have KJ : Keeps W2.drew W2.drew := Keeps.refl _
    have KW := hide K.out.drew
    have hlW : Hid (F < W2.drew.heap.size ∧ H < W2.drew.heap.size ∧ J < W2.drew.heap.size ∧ N < W2.drew.heap.size) := ⟨A.out.lt, R.out.lt, R7.out.lt, I.out.lt⟩
    go_upto_region 3 with fail
    go_region_held3 (fun w' => w'.cell? ⟨F, 0, none⟩ = some (.int .i64 room) ∧ w'.cell? ⟨F, 1, none⟩ = some (.slice va zs.length vc) ∧ w'.cell? ⟨F, 2, none⟩ = some (.int .i64 ch) ∧ w'.cell? ⟨G, 0, none⟩ = some (.string q.n) ∧ w'.cell? ⟨G, 1, none⟩ = some (.int .i64 q.t) ∧ w'.cell? ⟨G, 2, none⟩ = some (.int .i64 q.c)) (exact T) ((first | (go_at_call 65; refine (HPL.out _ (KW.out.trans KJ)).mono ?_; intro e w5 hE; obtain ⟨r, a, rfl, k5, hr⟩ := hE; obtain ⟨rfl, hlt, hwi⟩ := HP.out r a hr; replace KJ := KJ.trans k5; replace T := HT.out _ KJ; clear k5 hr) | (go_at_call 67; refine (HWO.out _ (KW.out.trans KJ) (a : Int) a (.inl ⟨rfl, hlt⟩)).mono ?_; intro e w6 hE; obtain ⟨v', rfl, ho, k6⟩ := hE; have OW := hide ho; have hB5 := hide KJ.size; have hB6 := hide (show w5.heap.size ≤ w6.heap.size from k6.size); replace KJ := KJ.trans k6; replace T := HT.out _ KJ; clear ho k6)))
    clear T HT HPL HWO HP
    obtain ⟨ya, yc, rfl⟩ := OW.out.form
    rw [List.length_map] at OW
    rw [List.length_map]
    have hwi2 := hide hwi
    have hln : Hid ((zs.eraseIdx a).length ≤ zs.length) := List.length_eraseIdx_le _ _
    have hsl := hide (fun z (h : z ∈ zs.eraseIdx a) => List.mem_of_mem_eraseIdx h)
    clear hwi hlt
    generalize zs.eraseIdx a = ZE at *
    replace A := hide (A.out.drew.keeps KJ)
    replace R := hide (R.out.drew.keeps KJ)
    replace R7 := hide (R7.out.drew.keeps KJ)
    replace I := hide (I.out.drew.keeps KJ)
    replace K := hide (KW.out.trans KJ)
    have hlt5 : Hid (F < w5.heap.size ∧ H < w5.heap.size ∧ J < w5.heap.size ∧ N < w5.heap.size) := by
      have h1 := hlW.out
      have h2 := hB5.out
      rw [Hid]; omega
    obtain ⟨i0, i1, i2, i3, i4, i5, i6⟩ := I.out.seven.1
    have hownA := hide (OW.out.alloc (.cells #[.string x.set.key.n, .int .i64 x.set.key.t, .int .i64 x.set.key.c, .slice xa xl xc, .int .i64 x.set.ttl, .int .i64 x.u, .int .i64 x.rank] 43))
    have KA := hide (K.out.alloc (.cells #[.string x.set.key.n, .int .i64 x.set.key.t, .int .i64 x.set.key.c, .slice xa xl xc, .int .i64 x.set.ttl, .int .i64 x.u, .int .i64 x.rank] 43))
    have A1 := hide (A.out.alloc (.cells #[.string x.set.key.n, .int .i64 x.set.key.t, .int .i64 x.set.key.c, .slice xa xl xc, .int .i64 x.set.ttl, .int .i64 x.u, .int .i64 x.rank] 43))
    have R1 := hide (R.out.alloc (.cells #[.string x.set.key.n, .int .i64 x.set.key.t, .int .i64 x.set.key.c, .slice xa xl xc, .int .i64 x.set.ttl, .int .i64 x.u, .int .i64 x.rank] 43))
    have R71 := hide (R7.out.alloc (.cells #[.string x.set.key.n, .int .i64 x.set.key.t, .int .i64 x.set.key.c, .slice xa xl xc, .int .i64 x.set.ttl, .int .i64 x.u, .int .i64 x.rank] 43))
    have I1 := hide (I.out.alloc (.cells #[.string x.set.key.n, .int .i64 x.set.key.t, .int .i64 x.set.key.c, .slice xa xl xc, .int .i64 x.set.ttl, .int .i64 x.u, .int .i64 x.rank] 43))
    generalize hLL : ZE.map itZ = LL at *
    go_upto_region 4 with fail
    go_wp2_with (at_builtin; refine wpList_appR 43 27 7 80 (itV noIt (.slice none 0 0)) _ Try.underlying27 info14 rfl (by decide) rfl _ _ rfl w5.heap.size _ _ rfl hownA.out _ _ (itZ (x, .slice xa xl xc)) rfl rfl ?c0 ?c1 ?c2 ?c3 ?c4 ?_)
    case c0 => exact itZ_ones _ ⟨xa, xl, xc, rfl⟩
    case c1 =>
      intro jj u hu
      exact cells_box w6 #[.string x.set.key.n, .int .i64 x.set.key.t, .int .i64 x.set.key.c, .slice xa xl xc, .int .i64 x.set.ttl, .int .i64 x.u, .int .i64 x.rank] 43 jj u hu
    case c2 => have := hln.out; rw [← hLL, List.length_map]; unfold maxLen; omega
    case c3 => have := hln.out; rw [← hLL, List.length_map]; omega
    case c4 => exact Nat.le_trans hB6.out ((Keeps.refl w6).alloc (.cells #[.string x.set.key.n, .int .i64 x.set.key.t, .int .i64 x.set.key.c, .slice xa xl xc, .int .i64 x.set.ttl, .int .i64 x.u, .int .i64 x.rank] 43)).size
    intro v7 w7 hown7 hb7 _
    have hlow : w.heap.size ≤ w5.heap.size := by
      have h1 := hlt5.out
      have h2 := hF.out
      omega
    have K7 := hide (show Keeps w w7 from Below.trans KA.out ⟨hb7.os, hb7.tape, hb7.output, hb7.size, fun i hi => hb7.block i (Nat.lt_of_lt_of_le hi hlow)⟩)
    have A7 := hide (show Blk w7 F _ _ from (hb7.block F hlt5.out.1).trans A1.out)
    have R77 := hide (show Blk w7 H _ _ from (hb7.block H hlt5.out.2.1).trans R1.out)
    have R7J := hide (show Blk w7 J _ _ from (hb7.block J hlt5.out.2.2.1).trans R71.out)
    have I7 := hide (show Blk w7 N _ _ from (hb7.block N hlt5.out.2.2.2).trans I1.out)
    have O7 := hide hown7
    obtain ⟨ua, uc, rfl⟩ := hown7.form
    clear hownA KA A1 R1 R71 I1 A R R7 I K hown7 hb7 i0 i1 i2 i3 i4 i5 i6 OW
    generalize (LL ++ [itZ (x, .slice xa xl xc)]).length = ul at *
    obtain ⟨⟨a0, a1, a2⟩, ⟨f0, f1, f2⟩, _⟩ := A7.out.three
    obtain ⟨d1, d2, d3⟩ := hne.out
    obtain ⟨d4, d5, d6⟩ := hNH.out
    have e1 := d1.symm
    have e2 := d2.symm
    have e3 := d3.symm
    have e4 := d4.symm
    have e5 := d5.symm
    have e6 := d6.symm
    go_upto_region 6 with fail
    have A8 := hide (show Blk (w7.setCell ⟨F, 1, none⟩ (.slice ua ul uc)) F #[.int .i64 room, .slice ua ul uc, .int .i64 ch] 29 by have := A7.out.set 1 (.slice ua ul uc); simpa using this)
    have R := hide (R77.out.other (a := ⟨F, 1, none⟩) d1 (.slice ua ul uc))
    have R7 := hide (R7J.out.other (a := ⟨F, 1, none⟩) d2 (.slice ua ul uc))
    have I8 := hide (I7.out.other (a := ⟨F, 1, none⟩) e6 (.slice ua ul uc))
    have K := hide (K7.out.setC ⟨F, 1, none⟩ (Nat.le_of_eq hF.out) (.slice ua ul uc))
    have O8 := hide (O7.out.setOther (a := ⟨F, 1, none⟩) hlt5.out.1 (.slice ua ul uc))
    generalize w7.setCell ⟨F, 1, none⟩ (.slice ua ul uc) = W8 at *
    clear a0 a1 a2 f0 f1 f2 A7 R77 R7J I7 K7 O7
    obtain ⟨⟨a0, a1, a2⟩, _, _⟩ := A8.out.three
    obtain ⟨⟨r0, r1, r2⟩, ⟨f0, f1, f2⟩, _⟩ := R.out.three
    obtain ⟨⟨i0, i1, i2, i3, i4, i5, i6⟩, _, _⟩ := I8.out.seven
    obtain ⟨⟨j0, j1, j2, j3, j4, j5, j6⟩, ⟨g0, g1, g2, g3, g4, g5, g6⟩, _⟩ := R7.out.seven
    go_region
    have RH := hide (show Blk (set7 (set3 W8 H (.int .i64 room) (.slice ua ul uc) (.int .i64 ch)) J (.string x.set.key.n) (.int .i64 x.set.key.t) (.int .i64 x.set.key.c) (.slice xa xl xc) (.int .i64 x.set.ttl) (.int .i64 x.u) (.int .i64 x.rank)) H _ _ from (heap_set7 _ J (.string x.set.key.n) (.int .i64 x.set.key.t) (.int .i64 x.set.key.c) (.slice xa xl xc) (.int .i64 x.set.ttl) (.int .i64 x.u) (.int .i64 x.rank) H d3).trans (set3_blk R.out (.int .i64 room) (.slice ua ul uc) (.int .i64 ch))).drew
    have RJ := hide (set7_blk (show Blk (set3 W8 H (.int .i64 room) (.slice ua ul uc) (.int .i64 ch)) J _ _ from (heap_set3 W8 H (.int .i64 room) (.slice ua ul uc) (.int .i64 ch) J e3).trans R7.out) (.string x.set.key.n) (.int .i64 x.set.key.t) (.int .i64 x.set.key.c) (.slice xa xl xc) (.int .i64 x.set.ttl) (.int .i64 x.u) (.int .i64 x.rank)).drew
    have K9 := hide (set7_keeps (set3_keeps K.out hle.out.1 (.int .i64 room) (.slice ua ul uc) (.int .i64 ch)) hle.out.2 (.string x.set.key.n) (.int .i64 x.set.key.t) (.int .i64 x.set.key.c) (.slice xa xl xc) (.int .i64 x.set.ttl) (.int .i64 x.u) (.int .i64 x.rank)).drew
    have O9 := hide ((O8.out.set3 hlt5.out.2.1 (.int .i64 room) (.slice ua ul uc) (.int .i64 ch)).set7 hlt5.out.2.2.1 (.string x.set.key.n) (.int .i64 x.set.key.t) (.int .i64 x.set.key.c) (.slice xa xl xc) (.int .i64 x.set.ttl) (.int .i64 x.u) (.int .i64 x.rank)).drew
    unfold set7 set3 at RH RJ K9 O9
    go_wp2_with fail
    generalize ((((((((((W8.setCell ⟨H, 0, none⟩ (.int .i64 room)).setCell ⟨H, 1, none⟩ (.slice ua ul uc)).setCell ⟨H, 2, none⟩ (.int .i64 ch)).setCell ⟨J, 0, none⟩ (.string x.set.key.n)).setCell ⟨J, 1, none⟩ (.int .i64 x.set.key.t)).setCell ⟨J, 2, none⟩ (.int .i64 x.set.key.c)).setCell ⟨J, 3, none⟩ (.slice xa xl xc)).setCell ⟨J, 4, none⟩ (.int .i64 x.set.ttl)).setCell ⟨J, 5, none⟩ (.int .i64 x.u)).setCell ⟨J, 6, none⟩ (.int .i64 x.rank)).drew = W9 at *
    obtain ⟨s0, s1, s2⟩ := RH.out.three.1
    obtain ⟨t0, t1, t2, t3, t4, t5, t6⟩ := RJ.out.seven.1
    have hRR : ReadRow W9 (.slice ua ul uc) 7 ((ZE ++ [(x, Value.slice xa xl xc)]).map itZ) := by rw [List.map_append, hLL]; exact O9.out.read
    have hII : itemsZ (ZE ++ [(x, Value.slice xa xl xc)]) = GL := by rw [HGL.out, ← hwi2.out]; unfold itemsZ; rw [List.map_append]; rfl
    have hMM : ∀ z ∈ ZE ++ [(x, Value.slice xa xl xc)], z ∈ zs := fun z hz => by
      rw [List.mem_append, List.mem_singleton] at hz
      rcases hz with hz | rfl
      · exact hsl.out z hz
      · exact hmem.out
    exact bodyPost_ret (v := .tuple #[.agg #[.int .i64 room, .slice ua ul uc, .int .i64 ch], .agg #[.string x.set.key.n, .int .i64 x.set.key.t, .int .i64 x.set.key.c, .slice xa xl xc, .int .i64 x.set.ttl, .int .i64 x.u, .int .i64 x.rank], .bool true]) (by simp [results, Try.results16, go_sem, s0, s1, s2, t0, t1, t2, t3, t4, t5, t6]) rfl (HEND.out _ _ _ _ HRT.out hRR hII hMM (.inr (fun a n c e => Nat.le_trans hlow (O9.out.above a n c e))) K9.out)
end Go.Proofs.Ytdlaepfnogmebaa
