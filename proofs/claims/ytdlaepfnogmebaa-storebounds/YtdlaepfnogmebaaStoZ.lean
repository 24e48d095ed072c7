/- The law's last one of a key. No condition but lengths. -/
import Derived.Test.YtdlaepfnogmebaaStoY
import Derived.Test.YtdlaepfnogmebaaTen
namespace Go.Proofs.Ytdlaepfnogmebaa
open Go.RowKit

def stZ (z : St × Value) : List Value := [.string z.1.key.n, .int .i64 z.1.key.t, .int .i64 z.1.key.c, z.2, .int .i64 z.1.ttl]
theorem stZ_ones (z : St × Value) (h : ∃ a n c, z.2 = .slice a n c) : ∀ u ∈ stZ z, u.oneCell' = true := by
  obtain ⟨a, n, c, h⟩ := h
  intro u hu
  simp only [stZ, List.mem_cons, List.not_mem_nil, or_false] at hu
  rcases hu with rfl | rfl | rfl | rfl | rfl
  · rfl
  · rfl
  · rfl
  · rw [h]; rfl
  · rfl
theorem row5z {w : World} {b off n cap : Nat} {zs : List (St × Value)} (h : ReadRow w (.slice (some ⟨b, off, none⟩) n cap) 5 (zs.map stZ)) {j : Nat} (hj : j < zs.length) :
    w.cell? ⟨b, off + j * 5, none⟩ = some (.string zs[j].1.key.n) ∧ w.cell? ⟨b, off + j * 5 + 1, none⟩ = some (.int .i64 zs[j].1.key.t) ∧ w.cell? ⟨b, off + j * 5 + 2, none⟩ = some (.int .i64 zs[j].1.key.c) ∧ w.cell? ⟨b, off + j * 5 + 3, none⟩ = some zs[j].2 ∧ w.cell? ⟨b, off + j * 5 + 4, none⟩ = some (.int .i64 zs[j].1.ttl) := by
  obtain ⟨b', off', hb, _, hc⟩ := h.parts (by rw [List.length_map]; omega)
  simp only [Option.some.injEq, Addr.mk.injEq, and_true] at hb
  obtain ⟨rfl, rfl⟩ := hb
  have hj' : j < (zs.map stZ).length := by simpa using hj
  have e : ∀ k, k < 5 → w.cell? ⟨b, off + j * 5 + k, none⟩ = (stZ zs[j])[k]? := fun k hk => by rw [hc j hj' k hk]; simp
  exact ⟨e 0 (by omega), e 1 (by omega), e 2 (by omega), e 3 (by omega), e 4 (by omega)⟩
/-- The last one of a key, with its value. -/
def nwZ (zs : List (St × Value)) (q : Qn) : St × Value := zs.foldl (fun o z => if z.1.key = q then z else o) (noSt, .slice none 0 0)
theorem nwZ_snoc (L : List (St × Value)) (x : St × Value) (q : Qn) : nwZ (L ++ [x]) q = if x.1.key = q then x else nwZ L q := by
  unfold nwZ
  rw [List.foldl_append]
  rfl
theorem nwZ_fst (q : Qn) (L : List (St × Value)) : (nwZ L q).1 = Bo.nw (L.map Prod.fst) q := by
  have gen : ∀ (L : List (St × Value)) (o : St × Value), (L.foldl (fun o z => if z.1.key = q then z else o) o).1 = (L.map Prod.fst).foldl (fun o s => if s.key = q then s else o) o.1 := by
    intro L
    induction L with
    | nil => intro o; rfl
    | cons z L ih =>
      intro o
      simp only [List.foldl_cons, List.map_cons]
      rw [ih]
      congr 1
      split <;> rfl
  exact gen L _
theorem nwZ_mem (L : List (St × Value)) (q : Qn) : nwZ L q ∈ L ∨ nwZ L q = (noSt, .slice none 0 0) := by
  have gen : ∀ (L : List (St × Value)) (o : St × Value), L.foldl (fun o z => if z.1.key = q then z else o) o ∈ L ∨ L.foldl (fun o z => if z.1.key = q then z else o) o = o := by
    intro L
    induction L with
    | nil => intro o; exact .inr rfl
    | cons z L ih =>
      intro o
      simp only [List.foldl_cons]
      rcases ih (if z.1.key = q then z else o) with h | h
      · exact .inl (List.mem_cons_of_mem _ h)
      · rw [h]
        split
        · exact .inl List.mem_cons_self
        · exact .inr rfl
  exact gen L _
/-- How far the search has come: block X holds the last one. -/
def NwRel (w : World) (len : Nat) (N : Nat → St × Value) (q : Qn) (F G X : Nat) (i : Value) (wr : World) : Prop :=
  ∃ j : Nat, j ≤ len ∧ i = .int .i64 j ∧ Hid (Blk wr X #[.string (N j).1.key.n, .int .i64 (N j).1.key.t, .int .i64 (N j).1.key.c, (N j).2, .int .i64 (N j).1.ttl] 35) ∧ Hid (Blk wr F #[.string q.n, .int .i64 q.t, .int .i64 q.c] 32) ∧ Hid (Blk wr G #[.string ⟨#[]⟩, .int .i64 0, .int .i64 0, .slice none 0 0, .int .i64 0] 35) ∧ Hid (Keeps w wr)

set_option maxHeartbeats 8000000 in
set_option maxRecDepth 100000 in
theorem newest14_any (v : Value) (zs : List (St × Value)) (q : Qn) (w : World) (hv : ReadRow w v 5 (zs.map stZ)) (hs : ∀ z ∈ zs, ∃ a n c, z.2 = .slice a n c) (hl : zs.length ≤ 1000000) :
    Calls Try.prog 29 #[v, .agg #[.string q.n, .int .i64 q.t, .int .i64 q.c]] w fun e w' => e = .returned (.agg #[.string (nwZ zs q).1.key.n, .int .i64 (nwZ zs q).1.key.t, .int .i64 (nwZ zs q).1.key.c, (nwZ zs q).2, .int .i64 (nwZ zs q).1.ttl]) ∧ Keeps w w' := by
  obtain ⟨va, vc, hvd⟩ := hv.len
  rw [List.length_map] at hvd
  subst hvd
  have RD := hide hv
  have HS := hide hs
  obtain ⟨N, hN0, hNS, hNE⟩ : ∃ N : Nat → St × Value, N 0 = (noSt, .slice none 0 0) ∧ (∀ j (h : j < zs.length), N (j + 1) = if zs[j].1.key = q then zs[j] else N j) ∧ N zs.length = nwZ zs q := by
    refine ⟨fun j => nwZ (zs.take j) q, rfl, fun j h => ?_, ?_⟩
    · show nwZ (zs.take (j + 1)) q = _
      rw [List.take_succ_eq_append_getElem h, nwZ_snoc]
    · show nwZ (zs.take zs.length) q = _
      rw [List.take_length]
  have hNM : ∃ a n c, (N zs.length).2 = .slice a n c := by
    rw [hNE]
    rcases nwZ_mem zs q with h | h
    · exact hs _ h
    · exact ⟨none, 0, 0, by rw [h]⟩
  rw [← hNE]
  replace hNS := hide hNS
  replace hN0 := hide hN0
  clear hv hs hNE
  have B := hide (((Blk.made w #[.string q.n, .int .i64 q.t, .int .i64 q.c] 32).alloc (.cells #[.string ⟨#[]⟩, .int .i64 0, .int .i64 0, .slice none 0 0, .int .i64 0] 35)).alloc (.cells #[.string ⟨#[]⟩, .int .i64 0, .int .i64 0, .slice none 0 0, .int .i64 0] 35))
  have R := (Blk.made (w.alloc (.cells #[.string q.n, .int .i64 q.t, .int .i64 q.c] 32)) #[.string ⟨#[]⟩, .int .i64 0, .int .i64 0, .slice none 0 0, .int .i64 0] 35).alloc (.cells #[.string ⟨#[]⟩, .int .i64 0, .int .i64 0, .slice none 0 0, .int .i64 0] 35)
  have X := Blk.made ((w.alloc (.cells #[.string q.n, .int .i64 q.t, .int .i64 q.c] 32)).alloc (.cells #[.string ⟨#[]⟩, .int .i64 0, .int .i64 0, .slice none 0 0, .int .i64 0] 35)) #[.string ⟨#[]⟩, .int .i64 0, .int .i64 0, .slice none 0 0, .int .i64 0] 35
  rw [size_allocG] at R
  rw [size_allocG, size_allocG] at X
  replace R := hide R
  replace X := hide X
  have K := hide ((((Keeps.refl w).alloc (.cells #[.string q.n, .int .i64 q.t, .int .i64 q.c] 32)).alloc (.cells #[.string ⟨#[]⟩, .int .i64 0, .int .i64 0, .slice none 0 0, .int .i64 0] 35)).alloc (.cells #[.string ⟨#[]⟩, .int .i64 0, .int .i64 0, .slice none 0 0, .int .i64 0] 35))
  go_enter Try.func29, Try.ntmps29
  go_upto_region 2 with fail
  generalize ((w.alloc (.cells #[.string q.n, .int .i64 q.t, .int .i64 q.c] 32)).alloc (.cells #[.string ⟨#[]⟩, .int .i64 0, .int .i64 0, .slice none 0 0, .int .i64 0] 35)).alloc (.cells #[.string ⟨#[]⟩, .int .i64 0, .int .i64 0, .slice none 0 0, .int .i64 0] 35) = W at *
  have hlX : Hid (w.heap.size ≤ w.heap.size + 1 + 1 ∧ w.heap.size ≤ w.heap.size + 1) := by rw [Hid]; omega
  have hne : Hid (w.heap.size ≠ w.heap.size + 1 + 1 ∧ w.heap.size + 1 ≠ w.heap.size + 1 + 1) := by rw [Hid]; omega
  generalize w.heap.size + 1 + 1 = XB at *
  generalize w.heap.size + 1 = G at *
  generalize hF : w.heap.size = F at B hne ⊢
  replace hF := hide hF
  go_wp2_with fail
  go_loopw [6] (fun i wr => NwRel w zs.length N q F G XB i wr) (fun i _ => zs.length - (intOf i).toNat)
  case atStart => exact ⟨0, by omega, rfl, by rw [hN0.out]; exact X, B, R, K⟩
  case round =>
    clear X B R K
    obtain ⟨j, hj, rfl, X, B, R, K⟩ := hrel
    by_cases hlt : j < zs.length
    · have i2 : (j : Int) < (zs.length : Int) := by omega
      have i0 : (0 : Int) ≤ (j : Int) := by omega
      have hv2 := RD.out.keeps K.out
      obtain ⟨b, off, rfl, -, -⟩ := RD.out.parts (by rw [List.length_map]; omega)
      obtain ⟨c0, c1, c2, c3, c4⟩ := row5z hv2 hlt
      obtain ⟨zA, zN, zC, hz2⟩ := HS.out _ (List.getElem_mem hlt)
      have HTK := hide (hNS.out j hlt)
      have HCC := hide (fun W (k : Keeps wr W) => row5z (hv2.keeps k) hlt)
      have rn := eql_qn zs[j].1.key q
      generalize hoo : off + j * 5 = o at *
      generalize zs[j] = z at *
      obtain ⟨z, zd⟩ := z
      simp only at hz2 c0 c1 c2 c3 c4 rn
      subst hz2
      obtain ⟨b0, b1, b2⟩ := B.out.three.1
      clear hv2
      by_cases he : z.key = q
      · have HE : Hid (N (j + 1) = (z, .slice zA zN zC)) := by rw [Hid, HTK.out, if_pos he]
        rw [decide_eq_true he] at rn
        clear he HTK
        go_upto_region 5 with fail
        go_quiet (fail)
        go_upto_region 6 with fail
        generalize hWD : wr.drewN _ = WD at *
        have kD : Keeps wr WD := by rw [← hWD]; exact (Keeps.refl wr).drewN _
        clear hWD
        obtain ⟨c0, c1, c2, c3, c4⟩ := HCC.out _ kD
        have XD := hide (X.out.keeps kD)
        replace B := hide (B.out.keeps kD)
        replace R := hide (R.out.keeps kD)
        replace K := hide (K.out.trans kD)
        obtain ⟨⟨x0, x1, x2, x3, x4⟩, ⟨f0, f1, f2, f3, f4⟩, _⟩ := XD.out.five_all
        have X3 := hide (set5_blk XD.out (.string z.key.n) (.int .i64 z.key.t) (.int .i64 z.key.c) (.slice zA zN zC) (.int .i64 z.ttl))
        have B3 := hide (show Blk (set5 WD XB (.string z.key.n) (.int .i64 z.key.t) (.int .i64 z.key.c) (.slice zA zN zC) (.int .i64 z.ttl)) F _ _ from (heap_set5 _ _ _ _ _ _ _ _ hne.out.1).trans B.out)
        have R3 := hide (show Blk (set5 WD XB (.string z.key.n) (.int .i64 z.key.t) (.int .i64 z.key.c) (.slice zA zN zC) (.int .i64 z.ttl)) G _ _ from (heap_set5 _ _ _ _ _ _ _ _ hne.out.2).trans R.out)
        have K3 := hide (set5_keeps K.out hlX.out.1 (.string z.key.n) (.int .i64 z.key.t) (.int .i64 z.key.c) (.slice zA zN zC) (.int .i64 z.ttl))
        unfold set5 at X3 B3 R3 K3
        clear X B R K XD HCC
        go_wp2_with fail
        generalize ((((WD.setCell ⟨XB, 0, none⟩ (.string z.key.n)).setCell ⟨XB, 1, none⟩ (.int .i64 z.key.t)).setCell ⟨XB, 2, none⟩ (.int .i64 z.key.c)).setCell ⟨XB, 3, none⟩ (.slice zA zN zC)).setCell ⟨XB, 4, none⟩ (.int .i64 z.ttl) = W9 at *
        go_roundw
        case rel => exact ⟨j + 1, by omega, by go_num, by rw [HE.out]; exact X3, B3, R3, K3⟩
        case measure => simp [intOf]; omega
      · have HE : Hid (N (j + 1) = N j) := by rw [Hid, HTK.out, if_neg he]
        rw [decide_eq_false he] at rn
        clear he HTK HCC
        go_upto_region 5 with fail
        go_quiet (fail)
        go_wp2_with fail
        go_roundw
        case rel => exact ⟨j + 1, by omega, by go_num, by rw [HE.out]; exact hide (X.out.keeps ((Keeps.refl _).drewN _)), hide (B.out.keeps ((Keeps.refl _).drewN _)), hide (R.out.keeps ((Keeps.refl _).drewN _)), hide (K.out.drewN _)⟩
        case measure => simp [intOf]; omega
    · obtain rfl : j = zs.length := by omega
      obtain ⟨zA, zN, zC, hz2⟩ := hNM
      generalize hNz : N zs.length = z at *
      obtain ⟨z, zd⟩ := z
      simp only at hz2 X
      subst hz2
      replace hNz := hide hNz
      go_upto_region 7 with fail
      obtain ⟨x0, x1, x2, x3, x4⟩ := X.out.five_all.1
      obtain ⟨⟨g0, g1, g2, g3, g4⟩, ⟨f0, f1, f2, f3, f4⟩, _⟩ := R.out.five_all
      have R3 := hide (set5_blk R.out (.string z.key.n) (.int .i64 z.key.t) (.int .i64 z.key.c) (.slice zA zN zC) (.int .i64 z.ttl))
      have K3 := hide (set5_keeps K.out hlX.out.2 (.string z.key.n) (.int .i64 z.key.t) (.int .i64 z.key.c) (.slice zA zN zC) (.int .i64 z.ttl))
      unfold set5 at R3 K3
      clear B K
      go_wp2_with fail
      generalize ((((wr.setCell ⟨G, 0, none⟩ (.string z.key.n)).setCell ⟨G, 1, none⟩ (.int .i64 z.key.t)).setCell ⟨G, 2, none⟩ (.int .i64 z.key.c)).setCell ⟨G, 3, none⟩ (.slice zA zN zC)).setCell ⟨G, 4, none⟩ (.int .i64 z.ttl) = W9 at *
      obtain ⟨s0, s1, s2, s3, s4⟩ := R3.out.five_all.1
      exact bodyPost_ret (v := .agg #[.string z.key.n, .int .i64 z.key.t, .int .i64 z.key.c, .slice zA zN zC, .int .i64 z.ttl]) (by simp [results, Try.results29, go_sem, s0, s1, s2, s3, s4]) rfl ⟨by rw [hNz.out], K3.out⟩
end Go.Proofs.Ytdlaepfnogmebaa
