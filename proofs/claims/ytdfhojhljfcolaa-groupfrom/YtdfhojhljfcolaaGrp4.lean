/- Flat of package group. No condition but lengths. -/
import Derived.Test.YtdfhojhljfcolaaGrp3
import Derived.Deep.RegionLaw
namespace Go.Proofs.Ytdfhojhljfcolaa
open Go.RowKit

/-- A call that answers records. -/
def RecsEnd (w : World) (l : List Rec) (e : Ending) (w' : World) : Prop := ∃ v, e = .returned v ∧ ReadRow w' v 5 (l.map recL8) ∧ Keeps w w'
theorem RecsEnd.mk {w w' : World} {l : List Rec} {v : Value} (h : ReadRow w' v 5 (l.map recL8)) (k : Keeps w w') : RecsEnd w l (.returned v) w' := ⟨v, rfl, h, k⟩
theorem recL8_ones (r : Rec) : ∀ u ∈ recL8 r, u.oneCell' = true := by
  intro u hu
  simp only [recL8, List.mem_cons, List.not_mem_nil, or_false] at hu
  rcases hu with rfl | rfl | rfl | rfl | rfl <;> rfl

/-- 'l = append(l, x)', x a struct of c cells, as one step of a region that draws. -/
theorem step_appR (ty sty : TypeId) (c bytes : Nat) (z : Value) {w : World} {ops : Array Oper} {o : Oper} {a : Act} {K : Act → World → Prop} {Q : Exit → Act → World → Prop} {E : Prop}
    (hu : Try.prog.underlying sty = some (.slice ty)) (hinfo : (Try.prog.info? ty).map (fun i => (i.zero, i.size, i.bytes)) = some (some z, c, bytes)) (hz : z.cells.size = c) (hc0 : 0 < c)
    (hgd : o.guard = none) (s x : Operand)
    (ho : o.op = .call { callee := .builtin .append, args := #[s, x], argTypes := #[sty, sty] })
    (B : Nat) (v : Value) (l : List (List Value)) (hs : a.eval s = v) (hown : OwnsR w B ty c v l) (ad : Addr) (cp : Nat) (b : List Value) (hx : a.eval x = .slice (some ad) 1 cp)
    (hb : b.length = c) (hone : ∀ u ∈ b, u.oneCell' = true)
    (hcell : ∀ j u, b[j]? = some u → w.cell? (ad.add j) = some u) (hlen : l.length + 1 ≤ maxLen) (hbytes : (l.length + 1) * bytes ≤ 140737488355328) (hB : B ≤ w.heap.size)
    (h : ∀ v' w', OwnsR w' B ty c v' (l ++ [b]) → Below B w w' → K (a.put o.dst v') w') :
    if Region.wanted o (yielded ops a.tmps) = true then Oper.wp Try.prog o a w K Q else E := by
  have hw : Region.wanted o (yielded ops a.tmps) = true := by simp [Region.wanted, hgd]
  rw [if_pos hw]
  obtain ⟨i0, hi, hz0, hz1, hz2⟩ := info_parts hinfo
  refine wp_append_own w s x sty ho B ty i0 z c bytes hu hi hz0 hz1 hz2 hz hc0 v l.length l.flatten hs hown.1 ad 1 cp b hx (by omega) hcell hone hlen hbytes hB ?_
  intro v' w' h2 h3 _
  refine h v' w' ⟨?_, ?_⟩ (Below.grown (Below.refl _ _) h3 hB fun k hk => (World.ownsRow.lt hown.1 k hk).1)
  · rw [List.length_append, List.flatten_append]
    simpa using h2
  · intro r hr
    rw [List.mem_append] at hr
    rcases hr with hr | hr
    · exact hown.2 r hr
    · simp at hr; subst hr; exact hb

/-- How far Flat has come. -/
def FlatRel (w : World) (s : St) (ttl : Int) (tn G H : Nat) (a : Option Addr) (cap : Nat) (v i : Value) (wr : World) : Prop :=
  ∃ j : Nat, j ≤ s.ds.length ∧ i = .int .i64 j ∧ OwnsR wr H 29 5 v ((((turned s.ds tn).take j).map (oneM s.key ttl)).map recL8) ∧ Blk wr G #[.string s.key.n, .int .i64 s.key.t, .int .i64 s.key.c, .slice a s.ds.length cap, .int .i64 s.ttl] 35 ∧ Keeps w wr ∧ H ≤ wr.heap.size
theorem turned_step (l : List (List UInt8)) (t j k : Nat) (hj : j < l.length) (hk : (t % l.length + j) % l.length = k) (hkl : k < l.length) : (turned l t).take (j + 1) = (turned l t).take j ++ [l[k]] := by
  have hj2 : j < (turned l t).length := by rw [turned_length]; exact hj
  rw [List.take_succ_eq_append_getElem hj2]
  congr 2
  have h := turned_get l t j hj
  rw [hk, List.getElem?_eq_getElem hj2, List.getElem?_eq_getElem hkl] at h
  exact Option.some.inj h

set_option maxHeartbeats 4000000 in
set_option maxRecDepth 100000 in
theorem Flat_any (v : Value) (s : St) (ttl turn : Int) (w : World) (hv : StAt w v s) (hf : StFine s) (hsm : s.ds.length ≤ 1000000) :
    Calls Try.prog 20 #[v, .int .i64 ttl, .int .i64 turn] w fun e w' => RecsEnd w (flatM s ttl turn) e w' := by
  have HC := hide (fun W (k : Keeps w W) => GCheck_any v s W (hv.keeps k) hf)
  obtain ⟨vd, rfl, hd⟩ := hv
  obtain ⟨a, cap, hvd⟩ := hd.len
  subst hvd
  have HFl := hide (show flatM s ttl turn = if stOk s && decide (0 ≤ ttl ∧ ttl ≤ 2147483647) && decide (0 ≤ turn) then (turned s.ds turn.toNat).map (oneM s.key ttl) else [] from rfl)
  have B := hide (Blk.made w #[.string s.key.n, .int .i64 s.key.t, .int .i64 s.key.c, .slice a s.ds.length cap, .int .i64 s.ttl] 35)
  have K := hide ((Keeps.refl w).alloc (.cells #[.string s.key.n, .int .i64 s.key.t, .int .i64 s.key.c, .slice a s.ds.length cap, .int .i64 s.ttl] 35))
  have hnz : Hid (stOk s = true → 0 < s.ds.length) := fun h => by
    simp only [stOk, Bool.and_eq_true, decide_eq_true_eq] at h
    exact List.length_pos_iff.2 h.1.1.1
  generalize stOk s = ok at *
  generalize flatM s ttl turn = R at *
  go_enter Try.func20, Try.ntmps20
  go_upto_region 1 with fail
  generalize w.alloc (.cells #[.string s.key.n, .int .i64 s.key.t, .int .i64 s.key.c, .slice a s.ds.length cap, .int .i64 s.ttl] 35) = W at *
  generalize hGw : w.heap.size = G at *
  obtain ⟨b0, b1, b2, b3, b4, _⟩ := B.out.five_cells
  go_wp2_with fail
  refine (HC.out _ K.out).mono ?_
  rintro e w1 ⟨rfl, k1⟩
  replace B := hide (B.out.keeps k1)
  replace K := hide (K.out.trans k1)
  clear k1 HC b0 b1 b2 b3 b4
  have HNo : Hid (∀ w', R = [] → Keeps w w' → RecsEnd w R (.returned (.slice none 0 0)) w') := fun w' h k => by rw [h]; exact RecsEnd.mk ReadRow.nil k
  cases ok
  · have HE : Hid (R = []) := by rw [Hid, HFl.out]; simp
    go_wp2
    go_ret
    exact HNo.out _ HE.out K.out
  by_cases t0 : ttl < 0
  · have HE : Hid (R = []) := by rw [Hid, HFl.out, show decide (0 ≤ ttl ∧ ttl ≤ 2147483647) = false from decide_eq_false (by omega)]; simp
    go_wp2
    go_ret
    exact HNo.out _ HE.out K.out
  by_cases t1 : 2147483647 < ttl
  · have HE : Hid (R = []) := by rw [Hid, HFl.out, show decide (0 ≤ ttl ∧ ttl ≤ 2147483647) = false from decide_eq_false (by omega)]; simp
    go_wp2
    go_ret
    exact HNo.out _ HE.out K.out
  by_cases t2 : turn < 0
  · have HE : Hid (R = []) := by rw [Hid, HFl.out, show decide (0 ≤ turn) = false from decide_eq_false (by omega)]; simp
    go_wp2
    go_ret
    exact HNo.out _ HE.out K.out
  have HE : Hid (R = (turned s.ds turn.toNat).map (oneM s.key ttl)) := by
    rw [Hid, HFl.out, show decide (0 ≤ ttl ∧ ttl ≤ 2147483647) = true from decide_eq_true (by omega), show decide (0 ≤ turn) = true from decide_eq_true (by omega)]
    simp
  have hpos := hnz.out rfl
  clear HNo HFl hnz
  obtain ⟨tn, rfl⟩ : ∃ tn : Nat, turn = tn := ⟨turn.toNat, by omega⟩
  have hne : ¬ (s.ds.length : Int) = 0 := by omega
  have hrem : (tn : Int).tmod (s.ds.length : Int) = ((tn % s.ds.length : Nat) : Int) := by
    rw [Int.tmod_eq_emod_of_nonneg (by omega)]; rfl
  have hfl := Nat.mod_lt tn hpos
  obtain ⟨i0, hi, hz0, hz1, hz2⟩ := info_parts Try.infoRR
  obtain ⟨b0, b1, b2, b3, b4, glt⟩ := B.out.five_cells
  go_upto_region 5 with fail
  clear b0 b1 b2 b3 b4
  generalize hff : tn % s.ds.length = f at *
  have hwl : w.heap.size ≤ w1.heap.size := K.out.size
  have hGH := glt
  go_upto_region 6 with (at_make; refine wpList_make_own _ rfl _ _ 22 rfl w1.heap.size 29 i0 (recV noRec) 5 Try.underlying22 hi hz0 hz1 .i64 .i64 _ s.ds.length rfl rfl rfl ?c0 ?c1 ?c2 ?_)
  case c0 => rw [hz2]; omega
  case c1 => unfold maxLen; omega
  case c2 => exact Nat.le_refl _
  intro w2 hown hg
  have hfI : (tn : Int) % (s.ds.length : Int) = (f : Int) := by rw [← hff]; rfl
  rw [hfI]
  have hown2 : OwnsR w2 w1.heap.size 29 5 (.slice (some ⟨w1.heap.size, 0, none⟩) 0 s.ds.length) [] := ⟨hown, by simp⟩
  have B2 := hide (show Blk w2 G _ _ from (hg.block G glt (by simp)).trans B.out)
  have K2 := hide (show Keeps w w2 from Below.grown K.out hg K.out.size (fun k hk => by cases hk))
  have hs2 : w1.heap.size ≤ w2.heap.size := hg.size
  have HD := hide hd
  have HONE := hide (fun d W => one_any s.key ttl d W)
  clear B K hown hg hrem hfI i0 hi hz0 hz1 hz2 hd
  generalize w1.heap.size = H at *
  go_wp2
  go_loopw [9, 35] (fun v i wr => FlatRel w s ttl tn G H a cap v i wr) (fun _ i _ => s.ds.length - (intOf i).toNat)
  case atStart => exact ⟨0, by omega, rfl, by simpa using hown2, B2.out, K2.out, hs2⟩
  case round =>
    clear B2 K2 hown2 hs2
    obtain ⟨j, hj, rfl, hown, B, K, hs⟩ := hrel
    replace B := hide B
    replace K := hide K
    by_cases hlt : j < s.ds.length
    · have i2 : (j : Int) < (s.ds.length : Int) := by omega
      have i0 : (0 : Int) ≤ (j : Int) := by omega
      obtain ⟨b, off, cap', he, hb0, hcell0, _⟩ := HD.out.parts (by omega)
      simp only [Value.slice.injEq, true_and] at he
      have hb : b < wr.heap.size := Nat.lt_of_lt_of_le hb0 K.out.size
      have hbH : b < H := by omega
      have hcell := fun i (h : i < s.ds.length) => (Below.cell K.out (p := ⟨b, off + i, none⟩) hb0).trans (hcell0 i h)
      clear hcell0 hb0
      obtain ⟨rfl, rfl⟩ := he
      obtain ⟨k, hk⟩ : ∃ k, (f + j) % s.ds.length = k := ⟨_, rfl⟩
      have hkl : k < s.ds.length := by rw [← hk]; exact Nat.mod_lt _ hpos
      have hc := hcell k hkl
      have HST := hide (turned_step s.ds tn j k hlt (by rw [hff]; exact hk) hkl)
      have c1 : IntKind.i64.wrap ((f : Int) + (j : Int)) = (f : Int) + (j : Int) := by rw [IntKind.wrap_i64]; omega
      have c2 : (0 : Int) ≤ (f : Int) + (j : Int) := by omega
      have c3 : ((f : Int) + (j : Int)) % (s.ds.length : Int) = (k : Int) := by rw [← hk]; simp
      have c3' : ((f : Int) + (j : Int)).tmod (s.ds.length : Int) = (k : Int) := by rw [Int.tmod_eq_emod_of_nonneg c2]; exact c3
      have c4 : (0 : Int) ≤ (k : Int) := by omega
      have c6 : ¬ s.ds = [] := List.length_pos_iff.1 hpos
      have c7 : ¬ s.ds.length = 0 := by omega
      have c5 : (k : Int) < (s.ds.length : Int) := by omega
      generalize hoo : off + k = o at hc
      generalize s.ds[k] = d at *
      unfold sv at hc
      have H1 := hide (fun W => HONE.out ⟨d.toArray⟩ W)
      simp only [recV] at H1
      unfold qnV at H1
      have HT : Hid (∀ w', Keeps wr.drew w' → w'.cell? ⟨G, 0, none⟩ = some (.string s.key.n) ∧ w'.cell? ⟨G, 1, none⟩ = some (.int .i64 s.key.t) ∧ w'.cell? ⟨G, 2, none⟩ = some (.int .i64 s.key.c) ∧ w'.cell? ⟨G, 3, none⟩ = some (.slice (some ⟨b, off, none⟩) s.ds.length cap) ∧ w'.cell? ⟨b, o, none⟩ = some (.string ⟨d.toArray⟩)) := fun w' k => ⟨(B.out.drew.keeps k).cell 0, (B.out.drew.keeps k).cell 1, (B.out.drew.keeps k).cell 2, (B.out.drew.keeps k).cell 3, (Below.cell k (p := ⟨b, o, none⟩) hb).trans hc⟩
      have HT5 : Hid (∀ w' w'', Keeps wr.drew w' → Below H w' w'' → w''.cell? ⟨G, 0, none⟩ = some (.string s.key.n) ∧ w''.cell? ⟨G, 1, none⟩ = some (.int .i64 s.key.t) ∧ w''.cell? ⟨G, 2, none⟩ = some (.int .i64 s.key.c) ∧ w''.cell? ⟨G, 3, none⟩ = some (.slice (some ⟨b, off, none⟩) s.ds.length cap) ∧ w''.cell? ⟨b, o, none⟩ = some (.string ⟨d.toArray⟩)) := fun w' w'' k q => by
        obtain ⟨q0, q1, q2, q3, q4⟩ := HT.out w' k
        exact ⟨(q.cell (p := ⟨G, 0, none⟩) hGH).trans q0, (q.cell (p := ⟨G, 1, none⟩) hGH).trans q1, (q.cell (p := ⟨G, 2, none⟩) hGH).trans q2, (q.cell (p := ⟨G, 3, none⟩) hGH).trans q3, (q.cell (p := ⟨b, o, none⟩) hbH).trans q4⟩
      have T := HT.out _ (Keeps.refl _)
      have KK : Keeps wr.drew wr.drew := Keeps.refl _
      have HW := hide hown.drew
      have HL0 := hide (show ((((turned s.ds tn).take j).map (oneM s.key ttl)).map recL8).length = j by simp [turned_length]; omega)
      have HL2 : Hid (((((turned s.ds tn).take j).map (oneM s.key ttl)).map recL8).length + 1 ≤ maxLen) := by rw [Hid, HL0.out]; unfold maxLen; omega
      have HL3 : Hid ((((((turned s.ds tn).take j).map (oneM s.key ttl)).map recL8).length + 1) * 56 ≤ 140737488355328) := by rw [Hid, HL0.out]; omega
      clear hcell hown HONE
      generalize hLL : (((turned s.ds tn).take j).map (oneM s.key ttl)).map recL8 = LL at *
      go_wp2_with fail
      go_region_held3 (fun w' => w'.cell? ⟨G, 0, none⟩ = some (.string s.key.n) ∧ w'.cell? ⟨G, 1, none⟩ = some (.int .i64 s.key.t) ∧ w'.cell? ⟨G, 2, none⟩ = some (.int .i64 s.key.c) ∧ w'.cell? ⟨G, 3, none⟩ = some (.slice (some ⟨b, off, none⟩) s.ds.length cap) ∧ w'.cell? ⟨b, o, none⟩ = some (.string ⟨d.toArray⟩)) (first | exact T | exact HT.out _ (KK.alloc _) | exact HT5.out _ _ (KK.alloc _) hb5) ((first | (go_at_call 32; refine (H1.out _).mono ?_; rintro e w4 ⟨rfl, k4⟩; replace KK := Keeps.trans KK k4; replace T := HT.out _ KK; clear k4) | (refine step_appR 29 22 5 56 (recV noRec) Try.underlying22 Try.infoRR rfl (by decide) rfl _ _ rfl H _ _ rfl ((HW.out.below KK).alloc _) _ _ (recL8 ⟨s.key.n, s.key.t, s.key.c, ttl, ⟨d.toArray⟩⟩) rfl rfl (recL8_ones _) (fun j u hu => cells_box _ #[.string s.key.n, .int .i64 s.key.t, .int .i64 s.key.c, .int .i64 ttl, .string ⟨d.toArray⟩] _ j u hu) HL2.out HL3.out (Nat.le_trans hs (KK.alloc _).size) ?_; intro v5 w5 hown5 hb5)))
      have B5 := hide (show Blk w5 G _ _ from (hb5.block G hGH).trans ((B.out.drew.keeps KK).alloc _))
      have K5 := hide (show Keeps w w5 from Below.trans ((K.out.drew.trans KK).alloc _) (Below.mono hb5 hwl))
      have hs5 : H ≤ w5.heap.size := Nat.le_trans (Nat.le_trans hs (KK.alloc _).size) hb5.size
      have HN : Hid (LL ++ [recL8 ⟨s.key.n, s.key.t, s.key.c, ttl, ⟨d.toArray⟩⟩] = ((((turned s.ds tn).take (j + 1)).map (oneM s.key ttl)).map recL8)) := by
        rw [Hid, HST.out, List.map_append, List.map_append, hLL]
        rfl
      replace hown5 := hide (HN.out ▸ hown5)
      clear T HT HT5 KK HW HL0 HL2 HL3 B K HN hb5 H1
      go_wp2
      go_roundw
      case rel => exact ⟨j + 1, by omega, by go_num, hown5.out, B5.out, K5.out, hs5⟩
      case measure => simp [intOf]; omega
    · obtain rfl : j = s.ds.length := by omega
      have HN : Hid (((turned s.ds tn).take s.ds.length).map (oneM s.key ttl) = R) := by
        rw [Hid, HE.out, List.take_of_length_le (by rw [turned_length]; exact Nat.le_refl _)]
        simp
      have HR := hide (HN.out ▸ hown.read)
      clear hown HD HONE HN
      go_wp2
      go_ret
      exact RecsEnd.mk HR.out K.out
end Go.Proofs.Ytdfhojhljfcolaa
