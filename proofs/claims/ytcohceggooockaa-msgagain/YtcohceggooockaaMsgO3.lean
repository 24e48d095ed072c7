/- The letters of what is decoded again: again. The condition: names, and lengths. -/
import Derived.Test.YtcohceggooockaaMsgO2
import Derived.Test.YtcohceggooockaaMsgE1
import Derived.Test.YtcohceggooockaaMsgW4
import Derived.Deep.RegionHeld3
namespace Go.Proofs.Ytcohceggooockaa
open Go.RowKit

theorem rows_mono8 {w : World} {B B' : Nat} {ty : TypeId} {c : Nat} {v : Value} {l : List (List Value)} (h : OwnsR w B ty c v l) (hb : B' ≤ B) : OwnsR w B' ty c v l := by
  refine ⟨⟨h.1.1, ?_⟩, h.2⟩
  rcases h.1.2 with h2 | ⟨g, cap, cur, e, hb2, rest⟩
  · exact .inl h2
  · exact .inr ⟨g, cap, cur, e, by omega, rest⟩
theorem rows_set8 {w : World} {B : Nat} {ty : TypeId} {c : Nat} {v : Value} {l : List (List Value)} (h : OwnsR w B ty c v l) (a : Addr) (u : Value) (ha : a.block < B) : OwnsR (w.setCell a u) B ty c v l := by
  have hg : w.grownBy (w.setCell a u) (some a.block) := ⟨rfl, rfl, rfl, by simp, fun k hk hne => Below.heap_setCell w a u k (fun e => hne (by rw [e]))⟩
  refine ⟨World.ownsRow.kept h.1 hg ?_, h.2⟩
  cases hb : v.ownBlock with
  | none => exact .inl rfl
  | some g =>
    right
    intro e
    have := (World.ownsRow.lt h.1 g hb).1
    simp only [Option.some.injEq] at e
    omega
def againM (m : Ms) : Ms := ⟨m.id, m.bits, m.qs, m.an.map (endR (baseS m)), m.ns.map (endR (baseS m)), m.ar.map (endR (baseS m))⟩
theorem blk6 {w : World} {M : Nat} {a b c d e f : Value} {ty : TypeId} (h : Blk w M #[a, b, c, d, e, f] ty) : w.cell? ⟨M, 0, none⟩ = some a ∧ w.cell? ⟨M, 1, none⟩ = some b ∧ w.cell? ⟨M, 2, none⟩ = some c ∧ w.cell? ⟨M, 3, none⟩ = some d ∧ w.cell? ⟨M, 4, none⟩ = some e ∧ w.cell? ⟨M, 5, none⟩ = some f := ⟨h.cell 0, h.cell 1, h.cell 2, h.cell 3, h.cell 4, h.cell 5⟩
def MsEnd8 (w : World) (m : Ms) (e : Ending) (w' : World) : Prop := ∃ v, e = .returned v ∧ MsAt w' v m ∧ Keeps w w'
theorem MsEnd8.mk {w w' : World} {m : Ms} {v : Value} (h : MsAt w' v m) (k : Keeps w w') : MsEnd8 w m (.returned v) w' := ⟨v, rfl, h, k⟩

set_option maxHeartbeats 8000000 in
set_option maxRecDepth 100000 in
theorem again_any (v : Value) (m : Ms) (w : World) (h : MsAt w v m) (hb : Nm.okL (bl (baseS m)) = true) (hl : m.an.length ≤ 1000000 ∧ m.ns.length ≤ 1000000 ∧ m.ar.length ≤ 1000000)
    (ha : ∀ r ∈ m.an, Nm.okL (bl r.n) = true) (hn : ∀ r ∈ m.ns, Nm.okL (bl r.n) = true) (hr : ∀ r ∈ m.ar, Nm.okL (bl r.n) = true) :
    Calls Try.prog 22 #[v] w fun e w' => MsEnd8 w (againM m) e w' := by
  have HB := hide (fun W (k : Keeps w W) => refBase_any v m W (h.keeps k))
  obtain ⟨vq, va, vn, vr, rfl, rq, ra, rn, rr⟩ := h
  obtain ⟨aq, cq, h1⟩ := rq.len
  obtain ⟨aa, ca, h2⟩ := ra.len
  obtain ⟨an, cn, h3⟩ := rn.len
  obtain ⟨ar, cr, h4⟩ := rr.len
  rw [List.length_map] at h1 h2 h3 h4
  subst h1 h2 h3 h4
  have HA := hide (fun W (k : Keeps w W) => letters8_any _ (baseS m) m.an W (ra.keeps k) hb hl.1 ha)
  have HN := hide (fun W (k : Keeps w W) => letters8_any _ (baseS m) m.ns W (rn.keeps k) hb hl.2.1 hn)
  have HR := hide (fun W (k : Keeps w W) => letters8_any _ (baseS m) m.ar W (rr.keeps k) hb hl.2.2 hr)
  have RQ := hide rq
  clear rq ra rn rr hb hl ha hn hr
  have HM := hide (show againM m = ⟨m.id, m.bits, m.qs, m.an.map (endR (baseS m)), m.ns.map (endR (baseS m)), m.ar.map (endR (baseS m))⟩ from rfl)
  generalize againM m = X at *
  generalize baseS m = bs at *
  have BM0 := hide (Blk.made w #[.int .i64 m.id, .int .i64 m.bits, .slice aq m.qs.length cq, .slice aa m.an.length ca, .slice an m.ns.length cn, .slice ar m.ar.length cr] 26)
  have K0 := hide ((Keeps.refl w).alloc (.cells #[.int .i64 m.id, .int .i64 m.bits, .slice aq m.qs.length cq, .slice aa m.an.length ca, .slice an m.ns.length cn, .slice ar m.ar.length cr] 26))
  go_enter Try.func22, Try.ntmps22
  go_upto_region 1 with fail
  have BO0 := Blk.made (w.alloc (.cells #[.int .i64 m.id, .int .i64 m.bits, .slice aq m.qs.length cq, .slice aa m.an.length ca, .slice an m.ns.length cn, .slice ar m.ar.length cr] 26)) #[.int .i64 0, .int .i64 0, .slice none 0 0, .slice none 0 0, .slice none 0 0, .slice none 0 0] 26
  rw [show (w.alloc (.cells #[.int .i64 m.id, .int .i64 m.bits, .slice aq m.qs.length cq, .slice aa m.an.length ca, .slice an m.ns.length cn, .slice ar m.ar.length cr] 26)).heap.size = w.heap.size + 1 by simp] at BO0
  replace BO0 := hide BO0
  replace BM0 := hide (BM0.out.alloc (.cells #[.int .i64 0, .int .i64 0, .slice none 0 0, .slice none 0 0, .slice none 0 0, .slice none 0 0] 26))
  replace K0 := hide (K0.out.alloc (.cells #[.int .i64 0, .int .i64 0, .slice none 0 0, .slice none 0 0, .slice none 0 0, .slice none 0 0] 26))
  have hO1 : w.heap.size ≤ w.heap.size + 1 := Nat.le_succ _
  have hMO : w.heap.size ≠ w.heap.size + 1 := by omega
  have hM0 : w.heap.size ≤ w.heap.size := Nat.le_refl _
  generalize (w.alloc (.cells #[.int .i64 m.id, .int .i64 m.bits, .slice aq m.qs.length cq, .slice aa m.an.length ca, .slice an m.ns.length cn, .slice ar m.ar.length cr] 26)).alloc (.cells #[.int .i64 0, .int .i64 0, .slice none 0 0, .slice none 0 0, .slice none 0 0, .slice none 0 0] 26) = W0 at *
  generalize w.heap.size + 1 = O at *
  obtain ⟨M, hM⟩ : ∃ M, M = w.heap.size := ⟨_, rfl⟩
  rw [← hM] at BM0 hMO ⊢
  replace hM := hide hM
  replace hO1 := hide hO1
  replace hMO := hide hMO
  have hG0 : W0.heap.size ≤ W0.heap.size := Nat.le_refl _
  have BG0 := hide (Blk.made W0 #[.int .i64 m.id, .int .i64 m.bits, .slice aq m.qs.length cq, .slice aa m.an.length ca, .slice an m.ns.length cn, .slice ar m.ar.length cr] 26)
  have hMG : Hid (M ≠ W0.heap.size) := by have := BM0.out.lt; rw [Hid]; omega
  have hOG : Hid (O ≠ W0.heap.size) := by have := BO0.out.lt; rw [Hid]; omega
  have hwG : Hid (w.heap.size ≤ W0.heap.size) := K0.out.size
  have hOG2 : Hid (O < W0.heap.size + 1) := by have := BO0.out.lt; rw [Hid]; omega
  have t0 := blk6 BM0.out
  obtain ⟨t0, t1, t2, t3, t4, t5⟩ := t0
  go_upto_region 2 with fail
  clear t0 t1 t2 t3 t4 t5
  replace BM0 := hide (BM0.out.alloc (.cells #[.int .i64 m.id, .int .i64 m.bits, .slice aq m.qs.length cq, .slice aa m.an.length ca, .slice an m.ns.length cn, .slice ar m.ar.length cr] 26))
  replace BO0 := hide (BO0.out.alloc (.cells #[.int .i64 m.id, .int .i64 m.bits, .slice aq m.qs.length cq, .slice aa m.an.length ca, .slice an m.ns.length cn, .slice ar m.ar.length cr] 26))
  replace K0 := hide (K0.out.alloc (.cells #[.int .i64 m.id, .int .i64 m.bits, .slice aq m.qs.length cq, .slice aa m.an.length ca, .slice an m.ns.length cn, .slice ar m.ar.length cr] 26))
  generalize W0.alloc (.cells #[.int .i64 m.id, .int .i64 m.bits, .slice aq m.qs.length cq, .slice aa m.an.length ca, .slice an m.ns.length cn, .slice ar m.ar.length cr] 26) = W1 at *
  clear hG0
  generalize W0.heap.size = G at *
  have BM := BM0.out.drew
  have BG := BG0.out.drew
  have BO := BO0.out.drew
  have K := K0.out.drew
  clear BM0 BG0 BO0 K0
  go_region_held3 (fun w' => w'.cell? ⟨M, 0, none⟩ = some (.int .i64 m.id) ∧ w'.cell? ⟨M, 1, none⟩ = some (.int .i64 m.bits) ∧ w'.cell? ⟨M, 2, none⟩ = some (.slice aq m.qs.length cq) ∧ w'.cell? ⟨M, 3, none⟩ = some (.slice aa m.an.length ca) ∧ w'.cell? ⟨M, 4, none⟩ = some (.slice an m.ns.length cn) ∧ w'.cell? ⟨M, 5, none⟩ = some (.slice ar m.ar.length cr)) (first | exact blk6 BM | exact blk6 (BM.other (fun e => hMG.out e.symm) _)) ((first | (go_at_call 39; refine (HB.out _ K).mono ?_; rintro e w5 ⟨rfl, k5⟩; replace K := Keeps.trans K k5; replace BM := BM.keeps k5; replace BG := BG.keeps k5; replace BO := BO.keeps k5; clear k5) | (go_at_call 51; refine (HA.out _ K).mono ?_; intro e w5 hE; obtain ⟨v9, rfl, r9, k5⟩ := hE; obtain ⟨a9, c9, hv9⟩ := r9.form; subst hv9; replace r9 := rows_mono8 r9 (show G + 1 ≤ _ from BG.lt); replace K := Keeps.trans K k5; replace BM := BM.keeps k5; replace BG := BG.keeps k5; replace BO := BO.keeps k5; clear k5; have gc := BG.cell 3; have gf := BG.frozen 3)))
  clear gc gf
  have K0 := hide (K.setC ⟨G, 3, none⟩ hwG.out (.slice a9 m.an.length c9))
  have BM0 := hide (BM.other (a := ⟨G, 3, none⟩) (fun e => hMG.out e.symm) (.slice a9 m.an.length c9))
  have BO0 := hide (BO.other (a := ⟨G, 3, none⟩) (fun e => hOG.out e.symm) (.slice a9 m.an.length c9))
  have BG0 := hide (show Blk _ G #[.int .i64 m.id, .int .i64 m.bits, .slice aq m.qs.length cq, .slice a9 m.an.length c9, .slice an m.ns.length cn, .slice ar m.ar.length cr] 26 from BG.set 3 (.slice a9 m.an.length c9))
  have RR3 := hide (rows_set8 r9 ⟨G, 3, none⟩ (.slice a9 m.an.length c9) (Nat.lt_succ_self G))
  clear K BM BO BG r9
  generalize w5.setCell ⟨G, 3, none⟩ (.slice a9 m.an.length c9) = W3 at *
  simp only [List.length_map] at RR3
  obtain ⟨a3, ha3⟩ : ∃ x, x = a9 := ⟨_, rfl⟩
  obtain ⟨c3, hc3⟩ : ∃ x, x = c9 := ⟨_, rfl⟩
  rw [← ha3, ← hc3] at BG0 RR3 ⊢
  clear ha3 hc3
  go_upto_region 3 with fail
  have BM := BM0.out.drew
  have BG := BG0.out.drew
  have BO := BO0.out.drew
  have K := K0.out.drew
  have R3 := RR3.out.drew
  clear BM0 BG0 BO0 K0
  go_region_held3 (fun w' => w'.cell? ⟨M, 0, none⟩ = some (.int .i64 m.id) ∧ w'.cell? ⟨M, 1, none⟩ = some (.int .i64 m.bits) ∧ w'.cell? ⟨M, 2, none⟩ = some (.slice aq m.qs.length cq) ∧ w'.cell? ⟨M, 3, none⟩ = some (.slice aa m.an.length ca) ∧ w'.cell? ⟨M, 4, none⟩ = some (.slice an m.ns.length cn) ∧ w'.cell? ⟨M, 5, none⟩ = some (.slice ar m.ar.length cr)) (first | exact blk6 BM | exact blk6 (BM.other (fun e => hMG.out e.symm) _)) ((first | (go_at_call 39; refine (HB.out _ K).mono ?_; rintro e w5 ⟨rfl, k5⟩; replace K := Keeps.trans K k5; replace BM := BM.keeps k5; replace BG := BG.keeps k5; replace BO := BO.keeps k5; replace R3 := R3.below k5; clear k5) | (go_at_call 51; refine (HN.out _ K).mono ?_; intro e w5 hE; obtain ⟨v9, rfl, r9, k5⟩ := hE; obtain ⟨a9, c9, hv9⟩ := r9.form; subst hv9; replace r9 := rows_mono8 r9 (show G + 1 ≤ _ from BG.lt); replace K := Keeps.trans K k5; replace BM := BM.keeps k5; replace BG := BG.keeps k5; replace BO := BO.keeps k5; replace R3 := R3.below k5; clear k5; have gc := BG.cell 4; have gf := BG.frozen 4)))
  clear gc gf
  have K0 := hide (K.setC ⟨G, 4, none⟩ hwG.out (.slice a9 m.ns.length c9))
  have BM0 := hide (BM.other (a := ⟨G, 4, none⟩) (fun e => hMG.out e.symm) (.slice a9 m.ns.length c9))
  have BO0 := hide (BO.other (a := ⟨G, 4, none⟩) (fun e => hOG.out e.symm) (.slice a9 m.ns.length c9))
  have BG0 := hide (show Blk _ G #[.int .i64 m.id, .int .i64 m.bits, .slice aq m.qs.length cq, .slice a3 m.an.length c3, .slice a9 m.ns.length c9, .slice ar m.ar.length cr] 26 from BG.set 4 (.slice a9 m.ns.length c9))
  have RR4 := hide (rows_set8 r9 ⟨G, 4, none⟩ (.slice a9 m.ns.length c9) (Nat.lt_succ_self G))
  have RR3 := hide (rows_set8 R3 ⟨G, 4, none⟩ (.slice a9 m.ns.length c9) (Nat.lt_succ_self G))
  clear K BM BO BG r9 R3
  generalize w5.setCell ⟨G, 4, none⟩ (.slice a9 m.ns.length c9) = W4 at *
  simp only [List.length_map] at RR4
  obtain ⟨a4, ha4⟩ : ∃ x, x = a9 := ⟨_, rfl⟩
  obtain ⟨c4, hc4⟩ : ∃ x, x = c9 := ⟨_, rfl⟩
  rw [← ha4, ← hc4] at BG0 RR4 ⊢
  clear ha4 hc4
  go_upto_region 4 with fail
  have BM := BM0.out.drew
  have BG := BG0.out.drew
  have BO := BO0.out.drew
  have K := K0.out.drew
  have R3 := RR3.out.drew
  have R4 := RR4.out.drew
  clear BM0 BG0 BO0 K0
  go_region_held3 (fun w' => w'.cell? ⟨M, 0, none⟩ = some (.int .i64 m.id) ∧ w'.cell? ⟨M, 1, none⟩ = some (.int .i64 m.bits) ∧ w'.cell? ⟨M, 2, none⟩ = some (.slice aq m.qs.length cq) ∧ w'.cell? ⟨M, 3, none⟩ = some (.slice aa m.an.length ca) ∧ w'.cell? ⟨M, 4, none⟩ = some (.slice an m.ns.length cn) ∧ w'.cell? ⟨M, 5, none⟩ = some (.slice ar m.ar.length cr)) (first | exact blk6 BM | exact blk6 (BM.other (fun e => hMG.out e.symm) _)) ((first | (go_at_call 39; refine (HB.out _ K).mono ?_; rintro e w5 ⟨rfl, k5⟩; replace K := Keeps.trans K k5; replace BM := BM.keeps k5; replace BG := BG.keeps k5; replace BO := BO.keeps k5; replace R3 := R3.below k5; replace R4 := R4.below k5; clear k5) | (go_at_call 51; refine (HR.out _ K).mono ?_; intro e w5 hE; obtain ⟨v9, rfl, r9, k5⟩ := hE; obtain ⟨a9, c9, hv9⟩ := r9.form; subst hv9; replace r9 := rows_mono8 r9 (show G + 1 ≤ _ from BG.lt); replace K := Keeps.trans K k5; replace BM := BM.keeps k5; replace BG := BG.keeps k5; replace BO := BO.keeps k5; replace R3 := R3.below k5; replace R4 := R4.below k5; clear k5; have gc := BG.cell 5; have gf := BG.frozen 5)))
  clear gc gf
  have K0 := hide (K.setC ⟨G, 5, none⟩ hwG.out (.slice a9 m.ar.length c9))
  have BM0 := hide (BM.other (a := ⟨G, 5, none⟩) (fun e => hMG.out e.symm) (.slice a9 m.ar.length c9))
  have BO0 := hide (BO.other (a := ⟨G, 5, none⟩) (fun e => hOG.out e.symm) (.slice a9 m.ar.length c9))
  have BG0 := hide (show Blk _ G #[.int .i64 m.id, .int .i64 m.bits, .slice aq m.qs.length cq, .slice a3 m.an.length c3, .slice a4 m.ns.length c4, .slice a9 m.ar.length c9] 26 from BG.set 5 (.slice a9 m.ar.length c9))
  have RR5 := hide (rows_set8 r9 ⟨G, 5, none⟩ (.slice a9 m.ar.length c9) (Nat.lt_succ_self G))
  have RR3 := hide (rows_set8 R3 ⟨G, 5, none⟩ (.slice a9 m.ar.length c9) (Nat.lt_succ_self G))
  have RR4 := hide (rows_set8 R4 ⟨G, 5, none⟩ (.slice a9 m.ar.length c9) (Nat.lt_succ_self G))
  clear K BM BO BG r9 R3 R4
  generalize w5.setCell ⟨G, 5, none⟩ (.slice a9 m.ar.length c9) = W5 at *
  simp only [List.length_map] at RR5
  obtain ⟨a5, ha5⟩ : ∃ x, x = a9 := ⟨_, rfl⟩
  obtain ⟨c5, hc5⟩ : ∃ x, x = c9 := ⟨_, rfl⟩
  rw [← ha5, ← hc5] at BG0 RR5 ⊢
  clear ha5 hc5
  obtain ⟨g0, g1, g2, g3, g4, g5⟩ := blk6 BG0.out
  obtain ⟨o0, o1, o2, o3, o4, o5⟩ := blk6 BO0.out
  have f0 := BO0.out.frozen 0
  have f1 := BO0.out.frozen 1
  have f2 := BO0.out.frozen 2
  have f3 := BO0.out.frozen 3
  have f4 := BO0.out.frozen 4
  have f5 := BO0.out.frozen 5
  go_wp2_with fail
  clear g0 g1 g2 g3 g4 g5 o0 o1 o2 o3 o4 o5 f0 f1 f2 f3 f4 f5
  have BF := hide (show Blk _ O #[.int .i64 m.id, .int .i64 m.bits, .slice aq m.qs.length cq, .slice a3 m.an.length c3, .slice a4 m.ns.length c4, .slice a5 m.ar.length c5] 26 from (((((BO0.out.set 0 (.int .i64 m.id)).set 1 (.int .i64 m.bits)).set 2 (.slice aq m.qs.length cq)).set 3 (.slice a3 m.an.length c3)).set 4 (.slice a4 m.ns.length c4)).set 5 (.slice a5 m.ar.length c5))
  have KF := hide (((((((K0.out.setC ⟨O, 0, none⟩ hO1.out (.int .i64 m.id)).setC ⟨O, 1, none⟩ hO1.out (.int .i64 m.bits)).setC ⟨O, 2, none⟩ hO1.out (.slice aq m.qs.length cq)).setC ⟨O, 3, none⟩ hO1.out (.slice a3 m.an.length c3)).setC ⟨O, 4, none⟩ hO1.out (.slice a4 m.ns.length c4)).setC ⟨O, 5, none⟩ hO1.out (.slice a5 m.ar.length c5)))
  have Q3 := hide (rows_set8 (rows_set8 (rows_set8 (rows_set8 (rows_set8 (rows_set8 RR3.out ⟨O, 0, none⟩ (.int .i64 m.id) hOG2.out) ⟨O, 1, none⟩ (.int .i64 m.bits) hOG2.out) ⟨O, 2, none⟩ (.slice aq m.qs.length cq) hOG2.out) ⟨O, 3, none⟩ (.slice a3 m.an.length c3) hOG2.out) ⟨O, 4, none⟩ (.slice a4 m.ns.length c4) hOG2.out) ⟨O, 5, none⟩ (.slice a5 m.ar.length c5) hOG2.out)
  have Q4 := hide (rows_set8 (rows_set8 (rows_set8 (rows_set8 (rows_set8 (rows_set8 RR4.out ⟨O, 0, none⟩ (.int .i64 m.id) hOG2.out) ⟨O, 1, none⟩ (.int .i64 m.bits) hOG2.out) ⟨O, 2, none⟩ (.slice aq m.qs.length cq) hOG2.out) ⟨O, 3, none⟩ (.slice a3 m.an.length c3) hOG2.out) ⟨O, 4, none⟩ (.slice a4 m.ns.length c4) hOG2.out) ⟨O, 5, none⟩ (.slice a5 m.ar.length c5) hOG2.out)
  have Q5 := hide (rows_set8 (rows_set8 (rows_set8 (rows_set8 (rows_set8 (rows_set8 RR5.out ⟨O, 0, none⟩ (.int .i64 m.id) hOG2.out) ⟨O, 1, none⟩ (.int .i64 m.bits) hOG2.out) ⟨O, 2, none⟩ (.slice aq m.qs.length cq) hOG2.out) ⟨O, 3, none⟩ (.slice a3 m.an.length c3) hOG2.out) ⟨O, 4, none⟩ (.slice a4 m.ns.length c4) hOG2.out) ⟨O, 5, none⟩ (.slice a5 m.ar.length c5) hOG2.out)
  clear BO0 BG0 BM0 K0 RR3 RR4 RR5
  generalize ((((((W5.setCell ⟨O, 0, none⟩ (.int .i64 m.id)).setCell ⟨O, 1, none⟩ (.int .i64 m.bits)).setCell ⟨O, 2, none⟩ (.slice aq m.qs.length cq)).setCell ⟨O, 3, none⟩ (.slice a3 m.an.length c3)).setCell ⟨O, 4, none⟩ (.slice a4 m.ns.length c4)).setCell ⟨O, 5, none⟩ (.slice a5 m.ar.length c5)) = WF at *
  obtain ⟨z0, z1, z2, z3, z4, z5⟩ := blk6 BF.out
  have HZ : Hid (MsEnd8 w X (.returned (.agg #[.int .i64 m.id, .int .i64 m.bits, .slice aq m.qs.length cq, .slice a3 m.an.length c3, .slice a4 m.ns.length c4, .slice a5 m.ar.length c5])) WF) := by
    rw [Hid, HM.out]
    exact MsEnd8.mk ⟨_, _, _, _, rfl, RQ.out.keeps KF.out, Q3.out.read, Q4.out.read, Q5.out.read⟩ KF.out
  exact bodyPost_ret (v := .agg #[.int .i64 m.id, .int .i64 m.bits, .slice aq m.qs.length cq, .slice a3 m.an.length c3, .slice a4 m.ns.length c4, .slice a5 m.ar.length c5]) (by simp [results, Try.results22, go_sem, z0, z1, z2, z3, z4, z5]) rfl HZ.out
end Go.Proofs.Ytcohceggooockaa
