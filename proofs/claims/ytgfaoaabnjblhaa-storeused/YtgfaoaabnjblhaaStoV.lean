/- A store into which something is put, that is kept. No condition but lengths. -/
import Derived.Test.YtgfaoaabnjblhaaStoU
namespace Go.Proofs.Ytgfaoaabnjblhaa
open Go.RowKit

theorem ReadRow.setOther {w : World} {v : Value} {c : Nat} {rows : List (List Value)} (h : ReadRow w v c rows) {x : Addr} (hx : ∀ a k cp, v = .slice (some a) k cp → a.block ≠ x.block) (u : Value) : ReadRow (w.setCell x u) v c rows := by
  obtain ⟨av, cap, rfl, hle, hp⟩ := h
  refine ⟨av, cap, rfl, hle, fun hpos => ?_⟩
  obtain ⟨g, off, rfl, hlt, hc⟩ := hp hpos
  have hg : g ≠ x.block := hx _ _ _ rfl
  refine ⟨g, off, rfl, by simpa [World.setCell] using hlt, fun i hi j hj => ?_⟩
  rw [World.cell?_of_block (w := w) (Below.heap_setCell w x u g hg)]
  exact hc i hi j hj
theorem readS_of_tv {w : World} {v : Value} {ls : List (List UInt8)} (h : ReadRow w v 1 (ls.map tv)) : ReadS w v ls := by
  obtain ⟨a, cap, rfl, hle, hc⟩ := h
  rw [List.length_map] at hle ⊢
  refine ⟨a, cap, rfl, hle, fun i hi => ?_⟩
  obtain ⟨b, off, rfl, hb, hcell⟩ := hc (by rw [List.length_map]; omega)
  refine ⟨_, rfl, ?_⟩
  have := hcell i (by rw [List.length_map]; exact hi) 0 (by decide)
  rw [Nat.mul_one, Nat.add_zero] at this
  rw [add_none, this]
  simp [tv]
theorem put_ok {s : Sto} {x : It} (h : StoOk s) (hx : ItFine x) : StoOk ⟨s.room, Sto.cut (Sto.without s.items x.set.key ++ [x]) s.room, s.changes + 1⟩ := by
  have hr := h.room
  refine ⟨h.room, ?_, ?_, ?_, ?_⟩
  · show ((Sto.cut _ s.room).length : Int) ≤ s.room
    unfold Sto.cut
    rw [List.length_drop]
    have := Lr.cutAt_val (Sto.without s.items x.set.key ++ [x]).length s.room
    omega
  · show (Sto.keysL (Sto.cut _ s.room)).Nodup
    unfold Sto.cut
    rw [Sto.keysL_drop, Sto.touch_keys]
    exact List.Sublist.nodup (List.drop_sublist _ _) (Sto.nodup_touch h.nodup _)
  · intro i hi
    have hm : i ∈ Sto.without s.items x.set.key ++ [x] := List.mem_of_mem_drop hi
    rw [List.mem_append, List.mem_singleton] at hm
    rcases hm with hm | hm
    · exact h.fine i (List.mem_filter.1 hm).1
    · rw [hm]; exact hx
  · have := h.count
    show 0 ≤ s.changes + 1
    omega
theorem till_bound (now ttl : Int) : -1 ≤ Ag.till now ttl ∧ Ag.till now ttl ≤ 1099512232576 := by
  unfold Ag.till
  split
  · rename_i h
    simp only [Bool.and_eq_true, Ag.isT, decide_eq_true_eq] at h
    omega
  · omega
theorem isR_bound {r : Int} (h : Rk.isR r = true) : 1 ≤ r ∧ r ≤ 5 := by simpa [Rk.isR] using h
def PutEnd (w : World) (p m : Nat) (c : Int) (s' : Sto) (e : Ending) (w' : World) : Prop := e = .returned (.int .i64 c) ∧ SAt w' p m s' ∧ KB p m w w'

set_option maxHeartbeats 16000000 in
set_option maxRecDepth 100000 in
theorem Put_ok (p m : Nat) (s : Sto) (now : Int) (v : Value) (x : St) (rank : Int) (w : World) (hx : StAt w v x) (hf : StFine x) (hin : StIn x) (h : SAt w p m s) (h1 : ¬ Ag.till now x.ttl < 0) (h2 : stOk x = true) (h3 : Rk.isR rank = true) (h4 : Ag.live now (Ag.till now x.ttl) = true) (h5 : Sto.yields s now x.key rank = true) (hd6 : x.ds.length ≤ 1000000) (hch : s.changes ≤ 1099511627776) :
    Calls Try.prog 14 #[.pointer (some ⟨p, 0, none⟩), .int .i64 now, v, .int .i64 rank] w fun e w' => PutEnd w p m 0 ⟨s.room, Sto.cut (Sto.without s.items x.key ++ [⟨x, Ag.till now x.ttl, rank⟩]) s.room, s.changes + 1⟩ e w' := by
  have hmf : ∀ (fn : Fn) (first cap : Array Value) (w : World), (Instr.makeFunc fn first cap).run Try.prog w = .ok (.func fn first cap) w := fun _ _ _ _ => rfl
  have HGC := hide (fun W (kk : Keeps w W) => GCheck_any v x W (hx.keeps kk) hf)
  have hS := hide h
  have HMD := hide (fun W (kk : Keeps w W) => isMade_any p m s W (h.keeps kk))
  have HYD := hide (fun W (kk : Keeps w W) => yields_any p m s now x.key rank W (h.keeps kk) hin.1)
  have hIT : ItFine ⟨x, Ag.till now x.ttl, rank⟩ := ⟨hf, hin, hd6, (show -9223372036854775808 ≤ Ag.till now x.ttl ∧ Ag.till now x.ttl ≤ 9223372036854775807 by have := till_bound now x.ttl; omega), (show -9223372036854775808 ≤ rank ∧ rank ≤ 9223372036854775807 by have := isR_bound h3; omega)⟩
  obtain ⟨g1, g2, v0, n, f, g3, g4, g5, g6, g7, g8⟩ := h
  have hplt := g3.lt
  have hmlt := g6.lt
  have HDS := hide (fun vd (e : v = .agg #[.string x.key.n, .int .i64 x.key.t, .int .i64 x.key.c, vd, .int .i64 x.ttl]) => (show ReadS w vd x.ds by obtain ⟨vd', e', hd⟩ := hx; rw [e'] at e; simp at e; subst e; exact hd))
  obtain ⟨vd, rfl, hds⟩ := hx
  obtain ⟨va, vc, rfl⟩ := hds.len
  have A := hide (((Blk.made w #[.pointer (some ⟨p, 0, none⟩)] 25).alloc (.cells #[.string x.key.n, .int .i64 x.key.t, .int .i64 x.key.c, .slice va x.ds.length vc, .int .i64 x.ttl] 35)).alloc (.cells #[.int .i64 0] 38))
  have B := (Blk.made (w.alloc (.cells #[.pointer (some ⟨p, 0, none⟩)] 25)) #[.string x.key.n, .int .i64 x.key.t, .int .i64 x.key.c, .slice va x.ds.length vc, .int .i64 x.ttl] 35).alloc (.cells #[.int .i64 0] 38)
  have C := Blk.made ((w.alloc (.cells #[.pointer (some ⟨p, 0, none⟩)] 25)).alloc (.cells #[.string x.key.n, .int .i64 x.key.t, .int .i64 x.key.c, .slice va x.ds.length vc, .int .i64 x.ttl] 35)) #[.int .i64 0] 38
  rw [size_allocG] at B
  rw [size_allocG, size_allocG] at C
  replace B := hide B
  replace C := hide C
  have K := hide ((((Keeps.refl w).alloc (.cells #[.pointer (some ⟨p, 0, none⟩)] 25)).alloc (.cells #[.string x.key.n, .int .i64 x.key.t, .int .i64 x.key.c, .slice va x.ds.length vc, .int .i64 x.ttl] 35)).alloc (.cells #[.int .i64 0] 38))
  go_enter_defers Try.func14, Try.ntmps14
  go_upto_region 2 with fail
  generalize ((w.alloc (.cells #[.pointer (some ⟨p, 0, none⟩)] 25)).alloc (.cells #[.string x.key.n, .int .i64 x.key.t, .int .i64 x.key.c, .slice va x.ds.length vc, .int .i64 x.ttl] 35)).alloc (.cells #[.int .i64 0] 38) = W at *
  have hle : Hid (w.heap.size ≤ w.heap.size + 1 + 1) := by rw [Hid]; omega
  have hAC : Hid (w.heap.size + 1 + 1 ≠ w.heap.size ∧ w.heap.size + 1 + 1 ≠ w.heap.size + 1) := by rw [Hid]; omega
  have hpX : Hid (w.heap.size ≠ p ∧ w.heap.size ≠ m ∧ w.heap.size + 1 ≠ p ∧ w.heap.size + 1 ≠ m ∧ w.heap.size + 1 + 1 ≠ p ∧ w.heap.size + 1 + 1 ≠ m) := by rw [Hid]; omega
  generalize w.heap.size + 1 + 1 = CB at *
  generalize w.heap.size + 1 = BB at *
  generalize hF : w.heap.size = F at A hAC hpX ⊢
  replace hF := hide hF
  have a0 : W.cell? ⟨F, 0, none⟩ = some (.pointer (some ⟨p, 0, none⟩)) := A.out.cell 0
  obtain ⟨b0, b1, b2, b3, b4, _⟩ := B.out.five_cells
  have c0 : W.cell? ⟨CB, 0, none⟩ = some (.int .i64 0) := C.out.cell 0
  have cf : W.frozen? ⟨CB, 0, none⟩ = false := C.out.frozen 0
  go_wp2_with fail
  refine (until_any now x.ttl _ hin.2).mono ?_
  rintro e w1 ⟨rfl, rfl⟩
  go_wp2_with fail
  refine (HMD.out _ K.out).mono ?_
  rintro e w1 ⟨rfl, rfl⟩
  go_wp2_with fail
  refine (HGC.out _ K.out).mono ?_
  rintro e w2 ⟨rfl, k1⟩
  replace A := hide (A.out.keeps k1)
  replace B := hide (B.out.keeps k1)
  replace C := hide (C.out.keeps k1)
  replace K := hide (K.out.trans k1)
  clear k1 a0 b0 b1 b2 b3 b4 c0 cf
  have a0 : w2.cell? ⟨F, 0, none⟩ = some (.pointer (some ⟨p, 0, none⟩)) := A.out.cell 0
  obtain ⟨b0, b1, b2, b3, b4, _⟩ := B.out.five_cells
  have c0 : w2.cell? ⟨CB, 0, none⟩ = some (.int .i64 0) := C.out.cell 0
  have cf : w2.frozen? ⟨CB, 0, none⟩ = false := C.out.frozen 0
  rw [h2]
  go_wp2_with fail
  refine (isRank14_any rank _).mono ?_
  rintro e w3 ⟨rfl, rfl⟩
  rw [h3]
  go_wp2_with fail
  refine (ageLive_any now _ _).mono ?_
  rintro e w4 ⟨rfl, rfl⟩
  rw [h4]
  go_wp2_with fail
  refine (HYD.out _ K.out).mono ?_
  rintro e w5 ⟨rfl, k1⟩
  replace A := hide (A.out.keeps k1)
  replace B := hide (B.out.keeps k1)
  replace C := hide (C.out.keeps k1)
  replace K := hide (K.out.trans k1)
  clear k1 a0 b0 b1 b2 b3 b4 c0 cf
  have a0 : w5.cell? ⟨F, 0, none⟩ = some (.pointer (some ⟨p, 0, none⟩)) := A.out.cell 0
  obtain ⟨b0, b1, b2, b3, b4, _⟩ := B.out.five_cells
  have c0 : w5.cell? ⟨CB, 0, none⟩ = some (.int .i64 0) := C.out.cell 0
  have cf : w5.frozen? ⟨CB, 0, none⟩ = false := C.out.frozen 0
  rw [h5]
  have HOW := hide (fun W (kk : Keeps w W) => own_any (.slice va x.ds.length vc) ⟨x, Ag.till now x.ttl, rank⟩ W (hds.keeps kk) hd6)
  have HKP := hide (fun vd' W (kk : Keeps w W) (hform : ∃ a c, vd' = .slice a x.ds.length c) => keep_any p m s ⟨x, Ag.till now x.ttl, rank⟩ vd' W g1 g2 v0 n f (g3.keeps kk) (g4.keeps kk) g5 (g6.keeps kk) g7 hIT hform hch)
  unfold itV at HOW HKP
  simp only at HOW HKP
  have T : w5.drew.cell? ⟨F, 0, none⟩ = some (.pointer (some ⟨p, 0, none⟩)) ∧ w5.drew.cell? ⟨BB, 0, none⟩ = some (.string x.key.n) ∧ w5.drew.cell? ⟨BB, 1, none⟩ = some (.int .i64 x.key.t) ∧ w5.drew.cell? ⟨BB, 2, none⟩ = some (.int .i64 x.key.c) ∧ w5.drew.cell? ⟨BB, 3, none⟩ = some (.slice va x.ds.length vc) ∧ w5.drew.cell? ⟨BB, 4, none⟩ = some (.int .i64 x.ttl) := ⟨a0, b0, b1, b2, b3, b4⟩
  have HTT : Hid (∀ w', KB p m w5.drew w' → w'.cell? ⟨F, 0, none⟩ = some (.pointer (some ⟨p, 0, none⟩)) ∧ w'.cell? ⟨BB, 0, none⟩ = some (.string x.key.n) ∧ w'.cell? ⟨BB, 1, none⟩ = some (.int .i64 x.key.t) ∧ w'.cell? ⟨BB, 2, none⟩ = some (.int .i64 x.key.c) ∧ w'.cell? ⟨BB, 3, none⟩ = some (.slice va x.ds.length vc) ∧ w'.cell? ⟨BB, 4, none⟩ = some (.int .i64 x.ttl)) := fun w' k =>
    ⟨(A.out.drew.kb hpX.out.1 hpX.out.2.1 k).cell 0, (B.out.drew.kb hpX.out.2.2.1 hpX.out.2.2.2.1 k).cell 0, (B.out.drew.kb hpX.out.2.2.1 hpX.out.2.2.2.1 k).cell 1, (B.out.drew.kb hpX.out.2.2.1 hpX.out.2.2.2.1 k).cell 2, (B.out.drew.kb hpX.out.2.2.1 hpX.out.2.2.2.1 k).cell 3, (B.out.drew.kb hpX.out.2.2.1 hpX.out.2.2.2.1 k).cell 4⟩
  have KX := hide (KB.refl p m w5.drew)
  have KJ := hide K.out.drew
  generalize hTL : Ag.till now x.ttl = TL at *
  replace hTL := hide hTL
  clear a0 b0 b1 b2 b3 b4 c0 cf HMD HYD HGC
  go_upto_region 9 with fail
  go_region_held3 (fun w' => w'.cell? ⟨F, 0, none⟩ = some (.pointer (some ⟨p, 0, none⟩)) ∧ w'.cell? ⟨BB, 0, none⟩ = some (.string x.key.n) ∧ w'.cell? ⟨BB, 1, none⟩ = some (.int .i64 x.key.t) ∧ w'.cell? ⟨BB, 2, none⟩ = some (.int .i64 x.key.c) ∧ w'.cell? ⟨BB, 3, none⟩ = some (.slice va x.ds.length vc) ∧ w'.cell? ⟨BB, 4, none⟩ = some (.int .i64 x.ttl)) (exact T) ((first | (go_at_call 48; refine (HOW.out _ KJ.out).mono ?_; intro e w6 hE; obtain ⟨vd', rfl, od, k6⟩ := hE; obtain ⟨da, dc, hdf⟩ := od.form; rw [List.length_map] at hdf; subst hdf; have OD := hide od; have hsz6 := hide k6.size; have KJ6 := hide (KJ.out.trans k6); replace KX := hide (KX.out.trans (KB.of k6)); replace T := HTT.out _ KX.out; clear od k6) | (go_at_call 47; refine (HKP.out _ _ KJ6.out ⟨_, _, rfl⟩).mono ?_; intro e w7 hE; have HKE := hide hE; obtain ⟨rfl, kb7, _⟩ := hE; have KX7 := hide kb7; replace KX := hide (KX.out.trans kb7); replace T := HTT.out _ KX.out; clear kb7)))
  obtain ⟨_, _, vu, n', f', bu, ru, au, mu, hn', hfk⟩ := HKE.out
  have C5lt : Hid (CB < w6.heap.size) := Nat.lt_of_lt_of_le C.out.lt hsz6.out
  have A7 := hide (A.out.drew.kb hpX.out.1 hpX.out.2.1 KX.out)
  have C7 := hide (C.out.drew.kb hpX.out.2.2.2.2.1 hpX.out.2.2.2.2.2 KX.out)
  have hp6 : Hid (p < w6.heap.size) := Nat.lt_of_lt_of_le hplt KJ6.out.size
  have hm6 : Hid (m < w6.heap.size) := Nat.lt_of_lt_of_le hmlt KJ6.out.size
  have hp5 : Hid (p < w5.drew.heap.size) := Nat.lt_of_lt_of_le hplt KJ.out.size
  have hm5 : Hid (m < w5.drew.heap.size) := Nat.lt_of_lt_of_le hmlt KJ.out.size
  have hC5 : Hid (CB < w5.drew.heap.size) := C.out.lt
  have AD := hide (OD.out.apart hp5.out hm5.out)
  have RD := hide ((readS_of_tv OD.out.read).kb AD.out KX7.out)
  have RDr := hide ((OD.out.read).kb AD.out KX7.out)
  have AV := hide OD.out.above
  have KB7 := hide ((KB.of (p := p) (m := m) KJ6.out).trans KX7.out)
  have c7 : w7.cell? ⟨CB, 0, none⟩ = some (.int .i64 0) := C7.out.cell 0
  have f7 : w7.frozen? ⟨CB, 0, none⟩ = false := C7.out.frozen 0
  replace bu := hide bu
  replace ru := hide ru
  replace au := hide au
  replace mu := hide mu
  replace hfk := hide hfk
  clear T HTT HKE HOW HKP KX A C B
  go_wp2_with fail
  have A8 : (w7.setCell ⟨CB, 0, none⟩ (.int .i64 0)).cell? ⟨F, 0, none⟩ = some (.pointer (some ⟨p, 0, none⟩)) := (A7.out.other (a := ⟨CB, 0, none⟩) hAC.out.1 (.int .i64 0)).cell 0
  have C8 := hide (show Blk (w7.setCell ⟨CB, 0, none⟩ (.int .i64 0)) CB #[.int .i64 0] 38 by have := C7.out.set 0 (.int .i64 0); simpa using this)
  have S8 := hide (bu.out.other (a := ⟨CB, 0, none⟩) hpX.out.2.2.2.2.1 (.int .i64 0))
  have M8 := hide (mu.out.same (w' := w7.setCell ⟨CB, 0, none⟩ (.int .i64 0)) (Below.heap_setCell _ _ _ _ (fun e => hpX.out.2.2.2.2.2 e.symm)))
  have R8 := hide (ru.out.setOther (x := ⟨CB, 0, none⟩) (fun a k cp e => by have := au.out a k cp e; have := C5lt.out; show a.block ≠ CB; omega) (.int .i64 0))
  have RD8 := hide (RDr.out.setOther (x := ⟨CB, 0, none⟩) (fun a k cp e => by have := AV.out a k cp e; have := hC5.out; show a.block ≠ CB; omega) (.int .i64 0))
  have KB8 := hide (KB7.out.setNew (x := ⟨CB, 0, none⟩) hle.out (.int .i64 0))
  generalize w7.setCell ⟨CB, 0, none⟩ (.int .i64 0) = W8 at *
  refine leaves_cons (f := 39) (args := #[.pointer (some ⟨F, 0, none⟩), .pointer (some ⟨CB, 0, none⟩)]) (by simp) (by simp [go_sem]) ?_
  refine (putDefer_yes F CB p s.changes _ W8 A8 (C8.out.cell 0) (S8.out.cell 3) (S8.out.frozen 3) ⟨g2.count, hch⟩).mono ?_
  rintro e u' w'' ⟨rfl, rfl, rfl⟩
  have C9 : (W8.setCell ⟨p, 3, none⟩ (.int .i64 (s.changes + 1))).cell? ⟨CB, 0, none⟩ = some (.int .i64 0) := (C8.out.other (a := ⟨p, 3, none⟩) (fun e => hpX.out.2.2.2.2.1 e.symm) (.int .i64 (s.changes + 1))).cell 0
  have S9 : Blk (W8.setCell ⟨p, 3, none⟩ (.int .i64 (s.changes + 1))) p #[.int .i64 s.room, .map (some m), vu, .int .i64 (s.changes + 1)] 73 := by
    have := S8.out.set 3 (.int .i64 (s.changes + 1))
    simpa using this
  have KB9 : KB p m w (W8.setCell ⟨p, 3, none⟩ (.int .i64 (s.changes + 1))) := KB8.out.trans (KB.setP W8 3 _)
  have hAU : Apart vu p m := fun a k cp e => by
    have h1 := au.out a k cp e
    have h2 := hp6.out
    have h3 := hm6.out
    exact ⟨by omega, by omega, by omega⟩
  have hEND : PutEnd w p m 0 ⟨s.room, Sto.cut (Sto.without s.items x.key ++ [⟨x, TL, rank⟩]) s.room, s.changes + 1⟩ (.returned (.int .i64 0)) (W8.setCell ⟨p, 3, none⟩ (.int .i64 (s.changes + 1))) := by
    refine ⟨rfl, ⟨g1, put_ok (x := ⟨x, TL, rank⟩) g2 hIT, vu, n', f', S9, ?_, hAU, M8.out.same (Below.heap_setCell _ _ _ _ (fun e => g1 e.symm)), hn', fun q => ?_⟩, KB9⟩
    · exact R8.out.setOther (x := ⟨p, 3, none⟩) (fun a k cp e => (hAU a k cp e).1) _
    · exact hfk.out _ (fun q => (g8 q).kb KB9) (readS_of_tv (RD8.out.setOther (x := ⟨p, 3, none⟩) (fun a k cp e => (AD.out a k cp e).1) _)) AD.out q
  rw [← hTL.out] at hEND
  simpa [Leaves, settle, results, Try.results14, go_sem, C9] using hEND
end Go.Proofs.Ytgfaoaabnjblhaa
