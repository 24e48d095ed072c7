/- StoreBounds answers true, for every input: the walk. (Made by tools/genbounds14.py.) -/
import Derived.Test.YtdlaepfnogmebaaStoC
namespace Go.Proofs.Ytdlaepfnogmebaa
open Go.RowKit

theorem Blk.e8 {w : World} {G : Nat} {u0 u1 u2 u3 u4 u5 u6 u7 : Value} {ty : TypeId} (h : Blk w G #[u0, u1, u2, u3, u4, u5, u6, u7] ty) :
    w.cell? ⟨G, 0, none⟩ = some u0 ∧ w.cell? ⟨G, 1, none⟩ = some u1 ∧ w.cell? ⟨G, 2, none⟩ = some u2 ∧ w.cell? ⟨G, 3, none⟩ = some u3 ∧ w.cell? ⟨G, 4, none⟩ = some u4 ∧ w.cell? ⟨G, 5, none⟩ = some u5 ∧ w.cell? ⟨G, 6, none⟩ = some u6 ∧ w.cell? ⟨G, 7, none⟩ = some u7 :=
  ⟨h.cell 0, h.cell 1, h.cell 2, h.cell 3, h.cell 4, h.cell 5, h.cell 6, h.cell 7⟩
/-- Blocks that it does not use turn, and others are barred: new ones. -/
theorem SAt.turn {XG XH : Nat → Prop} {w w' : World} {p m : Nat} {s : Sto} (h : SAt XG w p m s) (hs : w.heap.size ≤ w'.heap.size) (hk : ∀ k, k < w.heap.size → ¬ XG k → w'.heap[k]? = w.heap[k]?) (hp : ¬ XG p) (hm : ¬ XG m) (hx : ∀ g, XH g → (XG g ∨ w.heap.size ≤ g) ∧ g < w'.heap.size) : SAt XH w' p m s := by
  have pl : ∀ v, Pl XG w v p m → Pl XH w' v p m := fun v h5 => ⟨h5.ap, fun a n c e => ⟨fun hg => by
    rcases (hx _ hg).1 with h1 | h1
    · exact (h5.av a n c e).1 h1
    · have := (h5.av a n c e).2
      omega, Nat.lt_of_lt_of_le (h5.av a n c e).2 hs⟩, fun g hg => (hx g hg).2⟩
  obtain ⟨h1, h2, v, n, f, h3, h4, h5, h6, h7, h8⟩ := h
  refine ⟨h1, h2, v, n, f, (hk p h3.lt hp).trans h3, h4.stay hs (fun a n c e => hk _ (h5.av a n c e).2 (h5.av a n c e).1), pl _ h5, h6.same (hk m h6.lt hm), h7, fun q => ?_⟩
  have h := h8 q
  cases hf : Sto.find s.items q with
  | none => rw [hf] at h; exact (show f q = none from h)
  | some i =>
    rw [hf] at h
    obtain ⟨vd, e1, e2, e3⟩ := h
    exact ⟨vd, e1, e2.stay (fun a n c e => hk _ (e3.av a n c e).2 (e3.av a n c e).1), pl _ e3⟩
/-- How the store stands beside the sets that were put. -/
structure BoOk (w : World) (p m LO : Nat) (room : Int) (j : Nat) (s : Sto) (vl : Value) (zs : List (St × Value)) (wr : World) : Prop where
  sa : SAt (ofV vl) wr p m s
  ow : OwnsR wr LO 35 5 vl (zs.map stZ)
  dz : ∀ z ∈ zs, ReadS w z.2 z.1.ds
  inv : Bo.Inv s (zs.map Prod.fst)
  rm : s.room = room
  ch : s.changes ≤ j
  k : Keeps w wr
  sz : LO ≤ wr.heap.size
  len : zs.length ≤ j
theorem BoOk.keeps {w : World} {p m LO : Nat} {room : Int} {j : Nat} {s : Sto} {vl : Value} {zs : List (St × Value)} {wr w' : World} (h : BoOk w p m LO room j s vl zs wr) (k : Keeps wr w') : BoOk w p m LO room j s vl zs w' :=
  ⟨h.sa.keeps k, h.ow.below k, h.dz, h.inv, h.rm, h.ch, h.k.trans k, Nat.le_trans h.sz k.size, h.len⟩
theorem BoOk.next {w : World} {p m LO : Nat} {room : Int} {j : Nat} {s s' : Sto} {vl : Value} {zs : List (St × Value)} {wr w' : World} (h : BoOk w p m LO room j s vl zs wr) (hp : w.heap.size ≤ p ∧ w.heap.size ≤ m ∧ p < LO ∧ m < LO) (hs : SAt (ofV vl) w' p m s') (kb : KB p m wr w') (hi : Bo.Inv s' (zs.map Prod.fst)) (hr : s'.room = s.room) (hc : s'.changes ≤ ((j + 1 : Nat) : Int)) : BoOk w p m LO room (j + 1) s' vl zs w' :=
  ⟨hs, h.ow.kbR kb hp.2.2.1 hp.2.2.2, h.dz, hi, hr.trans h.rm, hc, Below.trans h.k (kb.below hp.1 hp.2.1 h.k.size), Nat.le_trans h.sz kb.size, Nat.le_succ_of_le h.len⟩
theorem BoOk.fz {w : World} {p m LO : Nat} {room : Int} {j : Nat} {s : Sto} {vl : Value} {zs : List (St × Value)} {wr : World} (h : BoOk w p m LO room j s vl zs wr) : ∀ z ∈ zs, ∃ a n c, z.2 = .slice a n c := fun z hz => by
  obtain ⟨a, c, e⟩ := (h.dz z hz).len
  exact ⟨a, _, c, e⟩
theorem TellOk.see3 {w : World} {B : Nat} {oi : Option It} {vi : Value} (h : TellOk w B oi vi) : ∃ x a n c, vi = itV x (.slice a n c) ∧ x = oi.getD noIt ∧ OwnsR w B 9 1 (.slice a n c) (x.set.ds.map tv) := by
  cases oi with
  | none => exact ⟨noIt, none, 0, 0, h, rfl, OwnsR.nil _ _ _ _⟩
  | some i =>
    obtain ⟨vd, rfl, ho⟩ := h
    obtain ⟨a, c, rfl⟩ := ho.form
    exact ⟨i, a, _, c, rfl, rfl, ho⟩
theorem nwZ_read {w : World} {zs : List (St × Value)} (h : ∀ z ∈ zs, ReadS w z.2 z.1.ds) (q : Qn) : ReadS w (nwZ zs q).2 (nwZ zs q).1.ds := by
  rcases nwZ_mem zs q with h1 | h1
  · exact h _ h1
  · rw [h1]; exact ReadS.none

set_option maxHeartbeats 64000000 in
set_option maxRecDepth 100000 in
theorem StoreBounds_yes (room : Int) (os : List (Op14 × Value)) (va : Option Addr) (vc : Nat) (w : World) (hv : Ops14At w (.slice va os.length vc) os) (h60 : (os.length : Int) ≤ 60) (hds : ∀ z ∈ os, z.1.set.ds.length ≤ 1000000) (hsm : small14 os 60 = true) (h1 : 1 ≤ room) (h2 : room ≤ 1000) :
    Calls Try.prog 4 #[.int .i64 room, .slice va os.length vc] w fun e w' => e = .returned (.bool true) ∧ Keeps w w' := by
  have HSM := hide (small14_any _ os 60 w hv)
  rw [hsm] at HSM
  obtain ⟨hrd, hall, hlen⟩ := hv
  have RD := hide hrd
  have HALL := hide hall
  have HDS := hide hds
  have h60' := hide h60
  have g1 : ¬ room < 1 := by omega
  have g2 : ¬ 1000 < room := by omega
  clear hrd hall hlen hds hsm
  go_enter Try.func4, Try.ntmps4
  go_wp2_with fail
  refine (HSM.out).mono ?_
  rintro e w1 ⟨rfl, k1⟩
  have K := hide k1
  clear k1 HSM
  go_wp2_with fail
  refine (New_yes room _ h1 h2).mono ?_
  intro e w2 hE
  obtain ⟨p, m, rfl, hp, hm, hS, k2⟩ := hE
  have hpw : Hid (w.heap.size ≤ p ∧ w.heap.size ≤ m ∧ p < w2.heap.size ∧ m < w2.heap.size) := by have h3 := hS.lt; have h4 := K.out.size; rw [Hid]; omega
  replace K := hide (K.out.trans k2)
  have S0 := hide (show BoOk w p m w2.heap.size room 0 ⟨room, [], 0⟩ (.slice none 0 0) [] w2 from ⟨hS.bar (Keeps.refl _) (fun g hg => by cases hg), OwnsR.nil _ _ _ _, by simp, Bo.inv_nil _, rfl, by simp, K.out, Nat.le_refl _, by simp⟩)
  clear hS k2 hp hm K
  generalize w2.heap.size = LO at *
  go_wp2_with fail
  go_loopw [6, 7] (fun vl i wr => ∃ (j : Nat) (s : Sto) (zs : List (St × Value)), j ≤ os.length ∧ i = .int .i64 j ∧ Hid (BoOk w p m LO room j s vl zs wr)) (fun _ i _ => os.length - (intOf i).toNat)
  case atStart => exact ⟨0, _, _, by omega, rfl, S0⟩
  case round =>
    clear S0
    obtain ⟨j, s, zs, hj, rfl, SC⟩ := hrel
    obtain ⟨qa, qc, hqf⟩ := SC.out.ow.form
    rw [List.length_map] at hqf
    generalize hql : zs.length = ql at hqf
    replace hql := hide hql
    subst hqf
    by_cases hlt : j < os.length
    · have i2 : (j : Int) < (os.length : Int) := by omega
      have i0 : (0 : Int) ≤ (j : Int) := by omega
      have hv2 := RD.out.keeps SC.out.k
      obtain ⟨b, off, rfl, _, _⟩ := RD.out.parts (by rw [List.length_map]; omega)
      obtain ⟨c0, c1, c2, c3, c4, c5, c6, c7⟩ := row8o hv2 hlt
      obtain ⟨⟨hf1, hf2, hfd, hfn, hfr⟩, hdr⟩ := HALL.out _ (List.getElem_mem hlt)
      have hd6 := HDS.out _ (List.getElem_mem hlt)
      generalize hoo : off + j * 8 = o at *
      generalize os[j] = z at *
      obtain ⟨z, zd⟩ := z
      obtain ⟨da, dc, hzd⟩ := hdr.len
      simp only at hzd hd6 hf1 hf2 hdr
      generalize hdl : z.set.ds.length = dl at hzd
      subst hzd
      simp only at c0 c1 c2 c3 c4 c5 c6 c7
      replace hdl := hide hdl
      replace hf1 := hide hf1
      replace hf2 := hide hf2
      replace hdr := hide hdr
      replace hd6 : Hid (z.set.ds.length ≤ 1000000) := hide hd6
      have hchj : Hid (s.changes ≤ 1099511627776) := by have h1 := SC.out.ch; have h3 := h60'.out; rw [Hid]; omega
      clear hv2 hfd hfn hfr
      have hLOw : Hid (LO ≤ wr.heap.size) := SC.out.sz
      have hON := hide (fun g (h : (Value.slice qa ql qc).ownBlock = some g) => (SC.out.ow.ownLt h).1)
      have hOP : Hid (wr.heap.size ≠ p ∧ wr.heap.size ≠ m) := by have h3 := hpw.out; have h4 := hLOw.out; rw [Hid]; omega
      go_upto_region 11 with fail
      have OB := hide (Blk.made wr #[.int .i64 z.d, .int .i64 z.now, .string z.set.key.n, .int .i64 z.set.key.t, .int .i64 z.set.key.c, .slice da dl dc, .int .i64 z.set.ttl, .int .i64 z.rank] 37)
      replace SC := hide (SC.out.keeps ((Keeps.refl wr).alloc (.cells #[.int .i64 z.d, .int .i64 z.now, .string z.set.key.n, .int .i64 z.set.key.t, .int .i64 z.set.key.c, .slice da dl dc, .int .i64 z.set.ttl, .int .i64 z.rank] 37)))
      clear c0 c1 c2 c3 c4 c5 c6 c7
      generalize wr.alloc (.cells #[.int .i64 z.d, .int .i64 z.now, .string z.set.key.n, .int .i64 z.set.key.t, .int .i64 z.set.key.c, .slice da dl dc, .int .i64 z.set.ttl, .int .i64 z.rank] 37) = V1 at *
      generalize wr.heap.size = OBK at *
      obtain ⟨o0, o1, o2, o3, o4, o5, o6, o7⟩ := OB.out.e8
      by_cases hd0 : z.d = 0
      · have hbd : (z.d != 0) = false := by rw [hd0]; rfl
        replace hd0 := hide hd0
        have HPX := Put_any p m s z.now (.agg #[.string z.set.key.n, .int .i64 z.set.key.t, .int .i64 z.set.key.c, .slice da dl dc, .int .i64 z.set.ttl]) z.set z.rank V1 ⟨_, rfl, hdr.out.keeps SC.out.k⟩ hf1.out hf2.out SC.out.sa hd6.out hchj.out
        have hcp := Bo.changes_put s z.now z.set z.rank
        have hinv0 := hide (fun (h : Sto.putE s z.now z.set z.rank = 0) => Bo.inv_put SC.out.inv h)
        have hinv1 := hide (fun (h : ¬ Sto.putE s z.now z.set z.rank = 0) => Bo.inv_no SC.out.inv h)
        have hpk := hide (fun (h : Sto.putE s z.now z.set z.rank = 0) => Bo.peek_put SC.out.sa.ok h)
        have hc5 : Hid ((Sto.put s z.now z.set z.rank).changes ≤ ((j + 1 : Nat) : Int) ∧ (Sto.put s z.now z.set z.rank).room = s.room) := ⟨by have h1 := hcp.1; have := SC.out.ch; omega, hcp.2⟩
        replace HPX := hide HPX
        clear hcp
        generalize Sto.put s z.now z.set z.rank = s5 at *
        generalize Sto.putE s z.now z.set z.rank = E at *
        generalize Ag.till z.now z.set.ttl = AT at *
        go_upto_region 15 with fail
        go_wp2_with fail
        refine (HPX.out).mono ?_
        rintro e w2 ⟨rfl, hs5, kb5⟩
        clear HPX
        by_cases hE : E = 0
        · subst hE
          have hI := hide (hinv0.out rfl)
          have hP := hide (hpk.out rfl)
          have hK2 : Keeps w w2 := Below.trans SC.out.k (kb5.below hpw.out.1 hpw.out.2.1 SC.out.k.size)
          have hOA := hide ((SC.out.ow.kbR kb5 hpw.out.2.2.1 hpw.out.2.2.2).alloc (.cells #[.string z.set.key.n, .int .i64 z.set.key.t, .int .i64 z.set.key.c, .slice da dl dc, .int .i64 z.set.ttl] 35))
          have hKA := hide (hK2.alloc (.cells #[.string z.set.key.n, .int .i64 z.set.key.t, .int .i64 z.set.key.c, .slice da dl dc, .int .i64 z.set.ttl] 35))
          have hSA := hide (hs5.keeps ((Keeps.refl w2).alloc (.cells #[.string z.set.key.n, .int .i64 z.set.key.t, .int .i64 z.set.key.c, .slice da dl dc, .int .i64 z.set.ttl] 35)))
          have hBA := hide ((OB.out.kb hOP.out.1 hOP.out.2 kb5).keeps ((Keeps.refl w2).alloc (.cells #[.string z.set.key.n, .int .i64 z.set.key.t, .int .i64 z.set.key.c, .slice da dl dc, .int .i64 z.set.ttl] 35)))
          have hLA : Hid (LO ≤ (w2.alloc (.cells #[.string z.set.key.n, .int .i64 z.set.key.t, .int .i64 z.set.key.c, .slice da dl dc, .int .i64 z.set.ttl] 35)).heap.size) := Nat.le_trans (Nat.le_trans SC.out.sz kb5.size) (by have := (Keeps.refl w2).alloc (.cells #[.string z.set.key.n, .int .i64 z.set.key.t, .int .i64 z.set.key.c, .slice da dl dc, .int .i64 z.set.ttl] 35); exact this.size)
          replace OB := hide (OB.out.kb hOP.out.1 hOP.out.2 kb5)
          clear o0 o1 o2 o3 o4 o5 o6 o7
          obtain ⟨o0, o1, o2, o3, o4, o5, o6, o7⟩ := OB.out.e8
          have hdz := hide SC.out.dz
          have hrm := hide SC.out.rm
          have hln := hide SC.out.len
          clear OB hs5 kb5 hK2 hinv0 hinv1 hpk
          clear SC
          go_wp2_with (at_builtin; refine wpList_appRB 35 61 5 64 _ _ Try.underlying61 infoSet rfl (by decide) rfl _ _ rfl LO _ _ rfl hOA.out _ _ (stZ (z.set, .slice da dl dc)) rfl rfl ?d0 ?d1 ?d2 ?d3 ?d4 ?_)
          case d0 => exact stZ_ones _ ⟨_, _, _, rfl⟩
          case d1 =>
            intro jj u hu
            exact cells_box w2 #[.string z.set.key.n, .int .i64 z.set.key.t, .int .i64 z.set.key.c, .slice da dl dc, .int .i64 z.set.ttl] 35 jj u hu
          case d2 => rw [List.length_map]; unfold maxLen; have h8 := hln.out; have h9 := h60'.out; omega
          case d3 => rw [List.length_map]; have h8 := hln.out; have h9 := h60'.out; omega
          case d4 => exact hLA.out
          intro v7 w7 hown7 hg7 hsn7
          have SC5 : Hid (BoOk w p m LO room (j + 1) s5 v7 (zs ++ [(z.set, .slice da dl dc)]) w7) := by
            refine ⟨?_, ?_, ?_, ?_, hc5.out.2.trans hrm.out, hc5.out.1, hKA.out.grown hg7 (fun g h => ?_), Nat.le_trans hLA.out hg7.size, ?_⟩
            · refine hSA.out.turn hg7.size (fun k hk hn => hg7.block k hk (fun e => hn e.symm)) (fun h => ?_) (fun h => ?_) (fun g hg => ?_)
              · have h1 := (hOA.out.ownLt h).2; have h2 := hpw.out; omega
              · have h1 := (hOA.out.ownLt h).2; have h2 := hpw.out; omega
              · refine ⟨?_, (hown7.ownLt hg).1⟩
                obtain ⟨ta, tc, rfl⟩ := hown7.form
                cases ta with
                | none => cases hg
                | some t =>
                  have h5 := hsn7 t _ _ rfl
                  simp only [ofV, Value.ownBlock, Option.some.injEq] at hg
                  subst hg
                  exact h5
            · rw [List.map_append]; exact hown7
            · intro z' hz'
              rw [List.mem_append, List.mem_singleton] at hz'
              rcases hz' with hz' | rfl
              · exact hdz.out z' hz'
              · exact hdr.out
            · rw [List.map_append]; exact hI.out
            · have h1 := (hOA.out.ownLt h).2; have h2 := hpw.out; omega
            · rw [List.length_append, List.length_singleton]; have := hln.out; omega
          have OB7 := hide (hBA.out.grown hg7 (fun h => by have := hON.out _ h; omega))
          clear o0 o1 o2 o3 o4 o5 o6 o7
          obtain ⟨o0, o1, o2, o3, o4, o5, o6, o7⟩ := OB7.out.e8
          have HPK := Peek_any p m s5 z.now z.set.key w7 SC5.out.sa hf2.out.1
          rw [hP.out] at HPK
          replace HPK := hide HPK
          clear hown7 hg7 hsn7 hOA hKA hSA hBA hLA hI hP hdz hrm hln hON
          go_wp2_with fail
          refine (HPK.out).mono ?_
          rintro e w8 ⟨vi, rfl, ht, k8⟩
          obtain ⟨xd, rfl, ho⟩ := ht
          obtain ⟨xa, xc, rfl⟩ := ho.form
          rw [List.length_map] at ho ⊢
          unfold itV
          simp only [Option.isSome_some]
          have XR0 := hide (readS_of_tv ho.read)
          clear o0 o1 o2 o3 o4 o5 o6 o7 HPK
          replace SC5 := hide (SC5.out.keeps (k8.alloc (.cells #[.string z.set.key.n, .int .i64 z.set.key.t, .int .i64 z.set.key.c, .slice xa z.set.ds.length xc, .int .i64 z.set.ttl, .int .i64 AT, .int .i64 z.rank] 46)))
          have OB8 := hide ((OB7.out.keeps k8).keeps ((Keeps.refl w8).alloc (.cells #[.string z.set.key.n, .int .i64 z.set.key.t, .int .i64 z.set.key.c, .slice xa z.set.ds.length xc, .int .i64 z.set.ttl, .int .i64 AT, .int .i64 z.rank] 46)))
          replace XR0 := hide (XR0.out.keeps ((Keeps.refl w8).alloc (.cells #[.string z.set.key.n, .int .i64 z.set.key.t, .int .i64 z.set.key.c, .slice xa z.set.ds.length xc, .int .i64 z.set.ttl, .int .i64 AT, .int .i64 z.rank] 46)))
          have XB := hide (Blk.made w8 #[.string z.set.key.n, .int .i64 z.set.key.t, .int .i64 z.set.key.c, .slice xa z.set.ds.length xc, .int .i64 z.set.ttl, .int .i64 AT, .int .i64 z.rank] 46)
          clear ho k8 OB7
          go_upto_region 18 with fail
          generalize w8.alloc (.cells #[.string z.set.key.n, .int .i64 z.set.key.t, .int .i64 z.set.key.c, .slice xa z.set.ds.length xc, .int .i64 z.set.ttl, .int .i64 AT, .int .i64 z.rank] 46) = V2 at *
          generalize w8.heap.size = XBN at *
          have HSM := refGSame_any (.agg #[.string z.set.key.n, .int .i64 z.set.key.t, .int .i64 z.set.key.c, .slice xa z.set.ds.length xc, .int .i64 z.set.ttl]) (.agg #[.string z.set.key.n, .int .i64 z.set.key.t, .int .i64 z.set.key.c, .slice da dl dc, .int .i64 z.set.ttl]) z.set z.set V2 ⟨_, rfl, XR0.out⟩ ⟨_, rfl, hdr.out.keeps SC5.out.k⟩ (by have := hd6.out; omega)
          rw [decide_eq_true rfl] at HSM
          replace HSM := hide HSM
          have hrr : (z.rank != z.rank) = false := by simp
          obtain ⟨o0, o1, o2, o3, o4, o5, o6, o7⟩ := OB8.out.e8
          obtain ⟨x0, x1, x2, x3, x4, x5, x6⟩ := XB.out.seven.1
          have HX9 := hide (fun W (k : Keeps V2 W) => (XB.out.keeps k).seven.1)
          have HO9 := hide (fun W (k : Keeps V2 W) => (OB8.out.keeps k).e8)
          clear XB OB8 XR0
          go_wp2_with fail
          refine (HSM.out).mono ?_
          rintro e w9 ⟨rfl, k9⟩
          clear o0 o1 o2 o3 o4 o5 o6 o7 x0 x1 x2 x3 x4 x5 x6 HSM
          obtain ⟨x0, x1, x2, x3, x4, x5, x6⟩ := HX9.out _ k9
          obtain ⟨o0, o1, o2, o3, o4, o5, o6, o7⟩ := HO9.out _ k9
          replace SC5 := hide (SC5.out.keeps k9)
          clear HX9 HO9 k9
          have HK := hide (fun W (k : Keeps w9 W) => Keys_any p m s5 W (SC5.out.sa.keeps k))
          have hkn : Hid ((s5.keys).Nodup ∧ ((s5.keys).length : Int) ≤ room ∧ (s5.keys).length ≤ 1000) := by
            have h3 := SC5.out.sa.ok
            have h4 := h3.len
            have h5 := SC5.out.rm
            have h6 : (s5.keys).length = s5.items.length := Sto.keysL_len _
            exact ⟨h3.nodup, by rw [h6]; omega, keys_small h3⟩
          generalize s5.keys = KL at *
          go_upto_region 20 with fail
          go_wp2_with fail
          refine (HK.out _ (Keeps.refl _)).mono ?_
          intro e wa hE
          obtain ⟨vka, rfl, oa, ka0⟩ := hE
          have ka : Keeps w9 wa := Keeps.trans (Keeps.refl _) ka0
          obtain ⟨ya, yc, rfl⟩ := oa.form
          rw [List.length_map]
          have i9 : ¬ room < (KL.length : Int) := by have := hkn.out.2.1; omega
          clear oa
          go_wp2_with fail
          refine (HK.out _ ka).mono ?_
          intro e wb hE
          obtain ⟨vkb, rfl, ob, kb⟩ := hE
          have HAP := hide (Apart13_any vkb KL wb ob.read (by have := hkn.out.2.2; omega))
          rw [decide_eq_true hkn.out.1] at HAP
          go_wp2_with fail
          refine (HAP.out).mono ?_
          rintro e wc ⟨rfl, kc⟩
          have SC7 := hide (SC5.out.keeps ((ka.trans kb).trans kc))
          clear HAP HK ka0 ka kb kc ob SC5 hkn
          go_wp2_with fail
          go_roundw
          case rel => exact ⟨j + 1, _, _, by omega, by go_num, SC7⟩
          case measure => simp [intOf]; omega
        · have hbe : (E == 0) = false := by rw [beq_eq_false_iff_ne]; exact hE
          have SC5 := hide (SC.out.next hpw.out hs5 kb5 (hinv1.out hE) hc5.out.2 hc5.out.1)
          replace hE := hide hE
          clear SC hs5 kb5 hinv0 hinv1 hpk OB
          clear o0 o1 o2 o3 o4 o5 o6 o7
          have HK := hide (fun W (k : Keeps w2 W) => Keys_any p m s5 W (SC5.out.sa.keeps k))
          have hkn : Hid ((s5.keys).Nodup ∧ ((s5.keys).length : Int) ≤ room ∧ (s5.keys).length ≤ 1000) := by
            have h3 := SC5.out.sa.ok
            have h4 := h3.len
            have h5 := SC5.out.rm
            have h6 : (s5.keys).length = s5.items.length := Sto.keysL_len _
            exact ⟨h3.nodup, by rw [h6]; omega, keys_small h3⟩
          generalize s5.keys = KL at *
          go_upto_region 20 with fail
          go_wp2_with fail
          refine (HK.out _ (Keeps.refl _)).mono ?_
          intro e wa hE
          obtain ⟨vka, rfl, oa, ka0⟩ := hE
          have ka : Keeps w2 wa := Keeps.trans (Keeps.refl _) ka0
          obtain ⟨ya, yc, rfl⟩ := oa.form
          rw [List.length_map]
          have i9 : ¬ room < (KL.length : Int) := by have := hkn.out.2.1; omega
          clear oa
          go_wp2_with fail
          refine (HK.out _ ka).mono ?_
          intro e wb hE
          obtain ⟨vkb, rfl, ob, kb⟩ := hE
          have HAP := hide (Apart13_any vkb KL wb ob.read (by have := hkn.out.2.2; omega))
          rw [decide_eq_true hkn.out.1] at HAP
          go_wp2_with fail
          refine (HAP.out).mono ?_
          rintro e wc ⟨rfl, kc⟩
          have SC7 := hide (SC5.out.keeps ((ka.trans kb).trans kc))
          clear HAP HK ka0 ka kb kc ob SC5 hkn
          go_wp2_with fail
          go_roundw
          case rel => exact ⟨j + 1, _, _, by omega, by go_num, SC7⟩
          case measure => simp [intOf]; omega
      · have hbd : (z.d != 0) = true := by rw [bne_iff_ne]; exact hd0
        replace hd0 := hide hd0
        have HGX := hide (Get_any p m s z.now z.set.key V1 SC.out.sa hf2.out.1)
        have hnw := hide (fun i (h : Sto.peek s z.now z.set.key = some i) => Bo.peek_nw SC.out.inv h)
        have hch5 := (Bo.changes_get s z.now z.set.key)
        have hi5 := hide (Bo.inv_get SC.out.inv z.now z.set.key)
        have hfi := hide (fun i (h : Sto.peek s z.now z.set.key = some i) => (SC.out.sa.ok.fine i (Sto.find_key (Bo.peek_some h).1).1).2.2.1)
        have hc5 : Hid ((Sto.get s z.now z.set.key).changes ≤ ((j + 1 : Nat) : Int) ∧ (Sto.get s z.now z.set.key).room = s.room) := ⟨by rw [hch5.1]; have := SC.out.ch; omega, hch5.2⟩
        clear hch5
        generalize Sto.get s z.now z.set.key = s5 at *
        generalize Sto.peek s z.now z.set.key = OI at *
        go_upto_region 12 with fail
        go_wp2_with fail
        refine (HGX.out).mono ?_
        intro e w2 hE
        obtain ⟨vi, rfl, ht, hs5, kb5⟩ := hE
        obtain ⟨x, xa, xl, xc, rfl, hxx, hxo⟩ := TellOk.see3 ht
        replace hxx := hide hxx
        have SC5 := hide (SC.out.next hpw.out hs5 kb5 hi5.out hc5.out.2 hc5.out.1)
        replace OB := hide (OB.out.kb hOP.out.1 hOP.out.2 kb5)
        have XR0 := hide (readS_of_tv hxo.read)
        have hdz := hide SC.out.dz
        clear ht hs5 kb5 hi5 hc5 SC HGX hxo o0 o1 o2 o3 o4 o5 o6 o7
        unfold itV
        have XB := hide (Blk.made w2 #[.string x.set.key.n, .int .i64 x.set.key.t, .int .i64 x.set.key.c, .slice xa xl xc, .int .i64 x.set.ttl, .int .i64 x.u, .int .i64 x.rank] 46)
        have ka := (Keeps.refl w2).alloc (.cells #[.string x.set.key.n, .int .i64 x.set.key.t, .int .i64 x.set.key.c, .slice xa xl xc, .int .i64 x.set.ttl, .int .i64 x.u, .int .i64 x.rank] 46)
        replace SC5 := hide (SC5.out.keeps ka)
        replace OB := hide (OB.out.keeps ka)
        replace XR0 := hide (XR0.out.keeps ka)
        clear ka
        go_upto_region 13 with fail
        generalize w2.alloc (.cells #[.string x.set.key.n, .int .i64 x.set.key.t, .int .i64 x.set.key.c, .slice xa xl xc, .int .i64 x.set.ttl, .int .i64 x.u, .int .i64 x.rank] 46) = V2 at *
        generalize w2.heap.size = XBN at *
        cases OI with
        | none =>
          simp only [Option.isSome_none]
          clear hnw hfi hxx XR0 XB
          go_quiet (fail)
          clear OB
          have HK := hide (fun W (k : Keeps V2 W) => Keys_any p m s5 W (SC5.out.sa.keeps k))
          have hkn : Hid ((s5.keys).Nodup ∧ ((s5.keys).length : Int) ≤ room ∧ (s5.keys).length ≤ 1000) := by
            have h3 := SC5.out.sa.ok
            have h4 := h3.len
            have h5 := SC5.out.rm
            have h6 : (s5.keys).length = s5.items.length := Sto.keysL_len _
            exact ⟨h3.nodup, by rw [h6]; omega, keys_small h3⟩
          generalize s5.keys = KL at *
          go_upto_region 20 with fail
          go_wp2_with fail
          refine (HK.out _ ((Keeps.refl V2).drewN _)).mono ?_
          intro e wa hE
          obtain ⟨vka, rfl, oa, ka0⟩ := hE
          have ka : Keeps V2 wa := Keeps.trans ((Keeps.refl V2).drewN _) ka0
          obtain ⟨ya, yc, rfl⟩ := oa.form
          rw [List.length_map]
          have i9 : ¬ room < (KL.length : Int) := by have := hkn.out.2.1; omega
          clear oa
          go_wp2_with fail
          refine (HK.out _ ka).mono ?_
          intro e wb hE
          obtain ⟨vkb, rfl, ob, kb⟩ := hE
          have HAP := hide (Apart13_any vkb KL wb ob.read (by have := hkn.out.2.2; omega))
          rw [decide_eq_true hkn.out.1] at HAP
          go_wp2_with fail
          refine (HAP.out).mono ?_
          rintro e wc ⟨rfl, kc⟩
          have SC7 := hide (SC5.out.keeps ((ka.trans kb).trans kc))
          clear HAP HK ka0 ka kb kc ob SC5 hkn
          go_wp2_with fail
          go_roundw
          case rel => exact ⟨j + 1, _, _, by omega, by go_num, SC7⟩
          case measure => simp [intOf]; omega
        | some i =>
          have hxi : x = i := hxx.out
          subst hxi
          obtain ⟨n1, n2, n3⟩ := hnw.out x rfl
          have hfx := hide (hfi.out x rfl)
          clear hnw hfi hxx
          simp only [Option.isSome_some]
          have hle : decide (x.u ≤ z.now) = false := decide_eq_false (by omega)
          have hle2 : ¬ x.u ≤ z.now := by omega
          have rn := neq_qn x.set.key z.set.key
          rw [decide_eq_true n2] at rn
          have HNW := hide (fun W (k : Keeps V2 W) => newest14_any (.slice qa ql qc) zs z.set.key W (SC5.out.ow.below k).read SC5.out.fz (by have h8 := SC5.out.len; have h9 := h60'.out; omega))
          have hnz : (nwZ zs z.set.key).1 = x.set := by rw [nwZ_fst]; exact n3
          have HSM := hide (fun W (k : Keeps V2 W) => refGSame_any (.agg #[.string x.set.key.n, .int .i64 x.set.key.t, .int .i64 x.set.key.c, .slice xa xl xc, .int .i64 x.set.ttl]) (.agg #[.string (nwZ zs z.set.key).1.key.n, .int .i64 (nwZ zs z.set.key).1.key.t, .int .i64 (nwZ zs z.set.key).1.key.c, (nwZ zs z.set.key).2, .int .i64 (nwZ zs z.set.key).1.ttl]) x.set (nwZ zs z.set.key).1 W ⟨_, rfl, XR0.out.keeps k⟩ ⟨_, rfl, (nwZ_read hdz.out z.set.key).keeps (SC5.out.k.trans k)⟩ (by have := hfx.out; omega))
          rw [decide_eq_true hnz.symm] at HSM
          obtain ⟨ua, uc, hua⟩ := (nwZ_read hdz.out z.set.key).len
          rw [hua] at HNW HSM
          generalize (nwZ zs z.set.key).1.ds.length = ul at *
          generalize (nwZ zs z.set.key).1 = NZ at *
          replace hnz := hide hnz
          have HT : Hid (∀ w', Keeps V2 w' → (w'.cell? ⟨XBN, 0, none⟩ = some (.string x.set.key.n) ∧ w'.cell? ⟨XBN, 1, none⟩ = some (.int .i64 x.set.key.t) ∧ w'.cell? ⟨XBN, 2, none⟩ = some (.int .i64 x.set.key.c) ∧ w'.cell? ⟨XBN, 3, none⟩ = some (.slice xa xl xc) ∧ w'.cell? ⟨XBN, 4, none⟩ = some (.int .i64 x.set.ttl) ∧ w'.cell? ⟨XBN, 5, none⟩ = some (.int .i64 x.u) ∧ w'.cell? ⟨XBN, 6, none⟩ = some (.int .i64 x.rank)) ∧ (w'.cell? ⟨OBK, 0, none⟩ = some (.int .i64 z.d) ∧ w'.cell? ⟨OBK, 1, none⟩ = some (.int .i64 z.now) ∧ w'.cell? ⟨OBK, 2, none⟩ = some (.string z.set.key.n) ∧ w'.cell? ⟨OBK, 3, none⟩ = some (.int .i64 z.set.key.t) ∧ w'.cell? ⟨OBK, 4, none⟩ = some (.int .i64 z.set.key.c) ∧ w'.cell? ⟨OBK, 5, none⟩ = some (.slice da dl dc) ∧ w'.cell? ⟨OBK, 6, none⟩ = some (.int .i64 z.set.ttl) ∧ w'.cell? ⟨OBK, 7, none⟩ = some (.int .i64 z.rank))) := fun w' k => ⟨(XB.out.keeps k).seven.1, (OB.out.keeps k).e8⟩
          have T := HT.out _ (Keeps.refl V2).drew
          have KK : Keeps V2 V2.drew := (Keeps.refl V2).drew
          clear XR0 XB OB n1 n2 n3 hua
          go_region_held3 (fun w' => (w'.cell? ⟨XBN, 0, none⟩ = some (.string x.set.key.n) ∧ w'.cell? ⟨XBN, 1, none⟩ = some (.int .i64 x.set.key.t) ∧ w'.cell? ⟨XBN, 2, none⟩ = some (.int .i64 x.set.key.c) ∧ w'.cell? ⟨XBN, 3, none⟩ = some (.slice xa xl xc) ∧ w'.cell? ⟨XBN, 4, none⟩ = some (.int .i64 x.set.ttl) ∧ w'.cell? ⟨XBN, 5, none⟩ = some (.int .i64 x.u) ∧ w'.cell? ⟨XBN, 6, none⟩ = some (.int .i64 x.rank)) ∧ (w'.cell? ⟨OBK, 0, none⟩ = some (.int .i64 z.d) ∧ w'.cell? ⟨OBK, 1, none⟩ = some (.int .i64 z.now) ∧ w'.cell? ⟨OBK, 2, none⟩ = some (.string z.set.key.n) ∧ w'.cell? ⟨OBK, 3, none⟩ = some (.int .i64 z.set.key.t) ∧ w'.cell? ⟨OBK, 4, none⟩ = some (.int .i64 z.set.key.c) ∧ w'.cell? ⟨OBK, 5, none⟩ = some (.slice da dl dc) ∧ w'.cell? ⟨OBK, 6, none⟩ = some (.int .i64 z.set.ttl) ∧ w'.cell? ⟨OBK, 7, none⟩ = some (.int .i64 z.rank))) (exact T) ((first | (go_at_call 29; refine (HNW.out _ KK).mono ?_; rintro e w9 ⟨rfl, k5⟩; replace KK := Keeps.trans KK k5; replace T := HT.out _ KK; clear k5) | (go_at_call 28; refine (HSM.out _ KK).mono ?_; rintro e w9 ⟨rfl, k5⟩; replace KK := Keeps.trans KK k5; replace T := HT.out _ KK; clear k5)))
          replace SC5 := hide (SC5.out.keeps KK)
          clear T HT HNW HSM KK
          have HK := hide (fun W (k : Keeps w9 W) => Keys_any p m s5 W (SC5.out.sa.keeps k))
          have hkn : Hid ((s5.keys).Nodup ∧ ((s5.keys).length : Int) ≤ room ∧ (s5.keys).length ≤ 1000) := by
            have h3 := SC5.out.sa.ok
            have h4 := h3.len
            have h5 := SC5.out.rm
            have h6 : (s5.keys).length = s5.items.length := Sto.keysL_len _
            exact ⟨h3.nodup, by rw [h6]; omega, keys_small h3⟩
          generalize s5.keys = KL at *
          go_upto_region 20 with fail
          go_wp2_with fail
          refine (HK.out _ (Keeps.refl _)).mono ?_
          intro e wa hE
          obtain ⟨vka, rfl, oa, ka0⟩ := hE
          have ka : Keeps w9 wa := Keeps.trans (Keeps.refl _) ka0
          obtain ⟨ya, yc, rfl⟩ := oa.form
          rw [List.length_map]
          have i9 : ¬ room < (KL.length : Int) := by have := hkn.out.2.1; omega
          clear oa
          go_wp2_with fail
          refine (HK.out _ ka).mono ?_
          intro e wb hE
          obtain ⟨vkb, rfl, ob, kb⟩ := hE
          have HAP := hide (Apart13_any vkb KL wb ob.read (by have := hkn.out.2.2; omega))
          rw [decide_eq_true hkn.out.1] at HAP
          go_wp2_with fail
          refine (HAP.out).mono ?_
          rintro e wc ⟨rfl, kc⟩
          have SC7 := hide (SC5.out.keeps ((ka.trans kb).trans kc))
          clear HAP HK ka0 ka kb kc ob SC5 hkn
          go_wp2_with fail
          go_roundw
          case rel => exact ⟨j + 1, _, _, by omega, by go_num, SC7⟩
          case measure => simp [intOf]; omega

    · have i2 : ¬ (j : Int) < (os.length : Int) := by omega
      have K9 := hide SC.out.k
      clear SC HALL HDS RD hlt
      go_wp2_with fail
      refine (live14_any _).mono ?_
      rintro e wz ⟨rfl, kz⟩
      go_wp2
      go_ret
      exact ⟨rfl, K9.out.trans kz⟩

set_option maxHeartbeats 8000000 in
set_option maxRecDepth 100000 in
theorem StoreBounds_walk (room : Int) (v : Value) (zs : List (Op14 × Value)) (w : World) (_ : -9223372036854775808 ≤ room ∧ room ≤ 9223372036854775807) (hv : Ops14At w v zs) :
    Calls Try.prog 4 #[.int .i64 room, v] w fun e w' => e = .returned (.bool true) ∧ Keeps w w' := by
  have HSM := hide (small14_any v zs 60 w hv)
  obtain ⟨va, vc, hvd⟩ := hv.1.len
  rw [List.length_map] at hvd
  subst hvd
  cases hsm : small14 zs 60
  · rw [hsm] at HSM
    go_enter Try.func4, Try.ntmps4
    go_wp2_with fail
    refine (HSM.out).mono ?_
    rintro e w1 ⟨rfl, k1⟩
    go_wp2_with fail
    refine (live14_any _).mono ?_
    rintro e wz ⟨rfl, kz⟩
    go_wp2
    go_ret
    exact ⟨rfl, k1.trans kz⟩
  obtain ⟨h60, hds⟩ := small14_len hsm
  by_cases g1 : room < 1
  · rw [hsm] at HSM
    clear hv hds h60
    go_enter Try.func4, Try.ntmps4
    go_wp2_with fail
    refine (HSM.out).mono ?_
    rintro e w1 ⟨rfl, k1⟩
    go_wp2_with fail
    refine (live14_any _).mono ?_
    rintro e wz ⟨rfl, kz⟩
    go_wp2
    go_ret
    exact ⟨rfl, k1.trans kz⟩
  by_cases g2 : 1000 < room
  · rw [hsm] at HSM
    clear hv hds h60
    go_enter Try.func4, Try.ntmps4
    go_wp2_with fail
    refine (HSM.out).mono ?_
    rintro e w1 ⟨rfl, k1⟩
    go_wp2_with fail
    refine (live14_any _).mono ?_
    rintro e wz ⟨rfl, kz⟩
    go_wp2
    go_ret
    exact ⟨rfl, k1.trans kz⟩
  exact StoreBounds_yes room zs va vc w hv h60 hds hsm (by omega) (by omega)
end Go.Proofs.Ytdlaepfnogmebaa
