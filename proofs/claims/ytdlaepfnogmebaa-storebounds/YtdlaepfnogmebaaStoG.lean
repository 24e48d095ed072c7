/- A store that is looked into: what is told is the caller's own. No condition but lengths. A store out of which something is got, that is used by that. No condition but lengths. -/
import Derived.Test.YtdlaepfnogmebaaStoR
import Derived.Deep.RegionWith
namespace Go.Proofs.Ytdlaepfnogmebaa
open Go.RowKit
variable {XG : Nat → Prop}

theorem Blk.seven {w : World} {G : Nat} {a b c d e f g : Value} {ty : TypeId} (h : Blk w G #[a, b, c, d, e, f, g] ty) :
    (w.cell? ⟨G, 0, none⟩ = some a ∧ w.cell? ⟨G, 1, none⟩ = some b ∧ w.cell? ⟨G, 2, none⟩ = some c ∧ w.cell? ⟨G, 3, none⟩ = some d ∧ w.cell? ⟨G, 4, none⟩ = some e ∧ w.cell? ⟨G, 5, none⟩ = some f ∧ w.cell? ⟨G, 6, none⟩ = some g) ∧
    (w.frozen? ⟨G, 0, none⟩ = false ∧ w.frozen? ⟨G, 1, none⟩ = false ∧ w.frozen? ⟨G, 2, none⟩ = false ∧ w.frozen? ⟨G, 3, none⟩ = false ∧ w.frozen? ⟨G, 4, none⟩ = false ∧ w.frozen? ⟨G, 5, none⟩ = false ∧ w.frozen? ⟨G, 6, none⟩ = false) ∧ G < w.heap.size :=
  ⟨⟨h.cell 0, h.cell 1, h.cell 2, h.cell 3, h.cell 4, h.cell 5, h.cell 6⟩, ⟨h.frozen 0, h.frozen 1, h.frozen 2, h.frozen 3, h.frozen 4, h.frozen 5, h.frozen 6⟩, h.lt⟩
/-- A struct of seven cells, written. -/
def set7 (W : World) (G : Nat) (a b c d e f g : Value) : World := ((((((W.setCell ⟨G, 0, none⟩ a).setCell ⟨G, 1, none⟩ b).setCell ⟨G, 2, none⟩ c).setCell ⟨G, 3, none⟩ d).setCell ⟨G, 4, none⟩ e).setCell ⟨G, 5, none⟩ f).setCell ⟨G, 6, none⟩ g
theorem set7_blk {W : World} {G : Nat} {z0 z1 z2 z3 z4 z5 z6 : Value} {ty : TypeId} (h : Blk W G #[z0, z1, z2, z3, z4, z5, z6] ty) (a b c d e f g : Value) : Blk (set7 W G a b c d e f g) G #[a, b, c, d, e, f, g] ty := by
  have h0 := h.set 0 a
  have h1 := h0.set 1 b
  have h2 := h1.set 2 c
  have h3 := h2.set 3 d
  have h4 := h3.set 4 e
  have h5 := h4.set 5 f
  have h6 := h5.set 6 g
  simp at h6
  exact h6
theorem set7_keeps {w W : World} (K : Keeps w W) {G : Nat} (hle : w.heap.size ≤ G) (a b c d e f g : Value) : Keeps w (set7 W G a b c d e f g) :=
  ((((((K.setC _ hle _).setC _ hle _).setC _ hle _).setC _ hle _).setC _ hle _).setC _ hle _).setC _ hle _

theorem OwnsR.setOther {w : World} {B : Nat} {ty : TypeId} {c : Nat} {v : Value} {l : List (List Value)} (h : OwnsR w B ty c v l) {a : Addr} (ha : a.block < B) (u : Value) : OwnsR (w.setCell a u) B ty c v l := by
  refine ⟨⟨h.1.1, ?_⟩, h.2⟩
  rcases h.1.2 with hn | ⟨g, cap, cur, rfl, hB, hg, rest⟩
  · exact .inl hn
  · exact .inr ⟨g, cap, cur, rfl, hB, by rw [Below.heap_setCell w a u g (by omega)]; exact hg, rest⟩
theorem OwnsR.set7 {w : World} {B : Nat} {ty : TypeId} {cc : Nat} {v : Value} {l : List (List Value)} (h : OwnsR w B ty cc v l) {G : Nat} (hG : G < B) (a b c d e f g : Value) : OwnsR (set7 w G a b c d e f g) B ty cc v l :=
  ((((((h.setOther (a := ⟨G, 0, none⟩) hG a).setOther (a := ⟨G, 1, none⟩) hG b).setOther (a := ⟨G, 2, none⟩) hG c).setOther (a := ⟨G, 3, none⟩) hG d).setOther (a := ⟨G, 4, none⟩) hG e).setOther (a := ⟨G, 5, none⟩) hG f).setOther (a := ⟨G, 6, none⟩) hG g
/-- An item whose data are the caller's own. -/
def OwnEnd (w : World) (i : It) (e : Ending) (w' : World) : Prop := ∃ vd, e = .returned (itV i vd) ∧ OwnsR w' w.heap.size 9 1 vd (i.set.ds.map tv) ∧ Keeps w w'
theorem readS_tv {w : World} {v : Value} {ls : List (List UInt8)} (h : ReadS w v ls) : ReadRow w v 1 (ls.map tv) := by
  by_cases hp : 0 < ls.length
  · obtain ⟨b, off, cap, rfl, hb, hc, hle⟩ := h.parts hp
    refine ⟨_, cap, by rw [List.length_map], by rw [List.length_map]; exact hle, fun _ => ⟨b, off, rfl, hb, fun i hi j hj => ?_⟩⟩
    rw [List.length_map] at hi
    obtain rfl : j = 0 := by omega
    rw [Nat.mul_one, Nat.add_zero, hc i hi]
    simp [tv]
  · obtain rfl : ls = [] := List.length_eq_zero_iff.1 (by omega)
    obtain ⟨a, cap, rfl⟩ := h.len
    exact ReadRow.nil

set_option maxHeartbeats 8000000 in
set_option maxRecDepth 100000 in
theorem own_any (vd : Value) (i : It) (w : World) (hv : ReadS w vd i.set.ds) (hl : i.set.ds.length ≤ 1000000) :
    Calls Try.prog 77 #[itV i vd] w fun e w' => OwnEnd w i e w' := by
  have HC := hide (fun W (kk : Keeps w W) => Clone_t vd (i.set.ds.map tv) W ((readS_tv hv).keeps kk) (fun r hr => by obtain ⟨x, _, rfl⟩ := List.mem_map.1 hr; rfl) (fun r hr u hu => by obtain ⟨x, _, rfl⟩ := List.mem_map.1 hr; exact tv_ones x u hu) (by rw [List.length_map]; omega))
  have HE : Hid (∀ (vd' : Value) (W : World), OwnsR W w.heap.size 9 1 vd' (i.set.ds.map tv) → Keeps w W → OwnEnd w i (.returned (itV i vd')) W) := fun vd' W h k => ⟨vd', rfl, h, k⟩
  unfold itV at HE ⊢
  generalize i.set.key.n = n at *
  generalize i.set.key.t = t at *
  generalize i.set.key.c = c at *
  generalize i.set.ttl = ttl at *
  generalize i.u = u at *
  generalize i.rank = rk at *
  generalize hD : i.set.ds.map tv = D at *
  have A := hide ((Blk.made w #[.string n, .int .i64 t, .int .i64 c, vd, .int .i64 ttl, .int .i64 u, .int .i64 rk] 46).alloc (.cells #[.string ⟨#[]⟩, .int .i64 0, .int .i64 0, .slice none 0 0, .int .i64 0, .int .i64 0, .int .i64 0] 46))
  have R := Blk.made (w.alloc (.cells #[.string n, .int .i64 t, .int .i64 c, vd, .int .i64 ttl, .int .i64 u, .int .i64 rk] 46)) #[.string ⟨#[]⟩, .int .i64 0, .int .i64 0, .slice none 0 0, .int .i64 0, .int .i64 0, .int .i64 0] 46
  rw [size_allocG] at R
  replace R := hide R
  have K := hide (((Keeps.refl w).alloc (.cells #[.string n, .int .i64 t, .int .i64 c, vd, .int .i64 ttl, .int .i64 u, .int .i64 rk] 46)).alloc (.cells #[.string ⟨#[]⟩, .int .i64 0, .int .i64 0, .slice none 0 0, .int .i64 0, .int .i64 0, .int .i64 0] 46))
  go_enter Try.func77, Try.ntmps77
  go_upto_region 1 with fail
  generalize (w.alloc (.cells #[.string n, .int .i64 t, .int .i64 c, vd, .int .i64 ttl, .int .i64 u, .int .i64 rk] 46)).alloc (.cells #[.string ⟨#[]⟩, .int .i64 0, .int .i64 0, .slice none 0 0, .int .i64 0, .int .i64 0, .int .i64 0] 46) = W at *
  have hle : Hid (w.heap.size ≤ w.heap.size + 1) := Nat.le_succ _
  have hne : Hid (w.heap.size + 1 ≠ w.heap.size) := by rw [Hid]; omega
  have hlA : Hid (w.heap.size ≤ w.heap.size) := Nat.le_refl _
  generalize w.heap.size + 1 = G at *
  generalize hF : w.heap.size = F at A ⊢ hne
  rw [hF] at hlA
  have hlF : Hid (w.heap.size ≤ F) := by rw [Hid, hF]; exact Nat.le_refl _
  clear hF hlA
  obtain ⟨⟨a0, a1, a2, a3, a4, a5, a6⟩, _, _⟩ := A.out.seven
  go_wp2_with fail
  refine (HC.out _ K.out).mono ?_
  intro e w1 hE
  obtain ⟨v', rfl, o1, k1⟩ := hE
  obtain ⟨av, cv, rfl⟩ := o1.form
  have A1 := hide (A.out.keeps k1)
  have R1 := hide (R.out.keeps k1)
  have hFW := A.out.lt
  have hGW := R.out.lt
  have O1 := hide (o1.setOther (a := ⟨F, 3, none⟩) hFW (.slice av D.length cv))
  have K1 := hide (K.out.trans k1)
  clear a0 a1 a2 a3 a4 a5 a6 k1 o1
  obtain ⟨⟨a0, a1, a2, a3, a4, a5, a6⟩, ⟨_, _, _, f3, _, _, _⟩, _⟩ := A1.out.seven
  have A2 := hide (A1.out.set 3 (.slice av D.length cv))
  have R2 := hide (R1.out.other (a := ⟨F, 3, none⟩) (fun e => hne.out e.symm) (.slice av D.length cv))
  go_upto_region 2 with fail
  have K2 := hide (K1.out.setC ⟨F, 3, none⟩ hlF.out (.slice av D.length cv))
  generalize w1.setCell ⟨F, 3, none⟩ (.slice av D.length cv) = W2 at *
  clear a0 a1 a2 a3 a4 a5 a6 A1 R1 K1 f3 A R
  obtain ⟨⟨a0, a1, a2, a3, a4, a5, a6⟩, _, _⟩ := (show Blk W2 F #[.string n, .int .i64 t, .int .i64 c, .slice av D.length cv, .int .i64 ttl, .int .i64 u, .int .i64 rk] 46 by have := A2.out; simpa using this).seven
  obtain ⟨⟨r0, r1, r2, r3, r4, r5, r6⟩, ⟨g0, g1, g2, g3, g4, g5, g6⟩, _⟩ := R2.out.seven
  have R3 := hide (set7_blk R2.out (.string n) (.int .i64 t) (.int .i64 c) (.slice av D.length cv) (.int .i64 ttl) (.int .i64 u) (.int .i64 rk))
  have K3 := hide (set7_keeps K2.out hle.out (.string n) (.int .i64 t) (.int .i64 c) (.slice av D.length cv) (.int .i64 ttl) (.int .i64 u) (.int .i64 rk))
  have O3 := hide ((O1.out.set7 hGW (.string n) (.int .i64 t) (.int .i64 c) (.slice av D.length cv) (.int .i64 ttl) (.int .i64 u) (.int .i64 rk)).le K.out.size)
  unfold set7 at R3 K3 O3
  clear A2 R2 K2 O1
  go_wp2_with fail
  generalize ((((((W2.setCell ⟨G, 0, none⟩ (.string n)).setCell ⟨G, 1, none⟩ (.int .i64 t)).setCell ⟨G, 2, none⟩ (.int .i64 c)).setCell ⟨G, 3, none⟩ (.slice av D.length cv)).setCell ⟨G, 4, none⟩ (.int .i64 ttl)).setCell ⟨G, 5, none⟩ (.int .i64 u)).setCell ⟨G, 6, none⟩ (.int .i64 rk) = W9 at *
  obtain ⟨⟨s0, s1, s2, s3, s4, s5, s6⟩, _, _⟩ := R3.out.seven
  exact bodyPost_ret (v := .agg #[.string n, .int .i64 t, .int .i64 c, .slice av D.length cv, .int .i64 ttl, .int .i64 u, .int .i64 rk]) (by simp [results, Try.results77, go_sem, s0, s1, s2, s3, s4, s5, s6]) rfl (HE.out _ _ O3.out K3.out)

theorem lawQ14 : Go.Maps.Keyed Try.prog 32 := Go.Maps.Keyed.of_law (Go.deep_law_laid (show laidOutB Try.prog = true by kernel_rfl) (m := 8) (by decide) (of_decide_eq_true (by kernel_rfl)) (by kernel_rfl) (by kernel_rfl))
theorem zeroItem (w : World) : (zeroValue 46).run Try.prog w = .ok (itV noIt (.slice none 0 0)) w := by kernel_rfl
/-- What is told of a key. -/
def TellOk (w' : World) (B : Nat) : Option It → Value → Prop
  | none, vi => vi = itV noIt (.slice none 0 0)
  | some i, vi => ∃ vd, vi = itV i vd ∧ OwnsR w' B 9 1 vd (i.set.ds.map tv)
def PeekEnd (w : World) (oi : Option It) (e : Ending) (w' : World) : Prop := ∃ vi, e = .returned (.tuple #[vi, .bool oi.isSome]) ∧ TellOk w' w.heap.size oi vi ∧ Keeps w w'
theorem live_zero (now : Int) : Ag.live now 0 = false := by
  unfold Ag.live Ag.isT
  by_cases h : 0 ≤ now ∧ now ≤ 1099511627776
  · have : ¬ now < 0 := by omega
    simp [this]
  · simp [h]

set_option maxHeartbeats 8000000 in
set_option maxRecDepth 100000 in
theorem Peek_nil (now : Int) (q : Qn) (w : World) :
    Calls Try.prog 21 #[.pointer none, .int .i64 now, .agg #[.string q.n, .int .i64 q.t, .int .i64 q.c]] w fun e w' => PeekEnd w none e w' := by
  have R := Blk.made (w.alloc (.cells #[.string q.n, .int .i64 q.t, .int .i64 q.c] 32)) #[.string ⟨#[]⟩, .int .i64 0, .int .i64 0, .slice none 0 0, .int .i64 0, .int .i64 0, .int .i64 0] 46
  rw [size_allocG] at R
  replace R := hide R
  have K := hide (((Keeps.refl w).alloc (.cells #[.string q.n, .int .i64 q.t, .int .i64 q.c] 32)).alloc (.cells #[.string ⟨#[]⟩, .int .i64 0, .int .i64 0, .slice none 0 0, .int .i64 0, .int .i64 0, .int .i64 0] 46))
  go_enter Try.func21, Try.ntmps21
  go_upto_region 1 with fail
  generalize (w.alloc (.cells #[.string q.n, .int .i64 q.t, .int .i64 q.c] 32)).alloc (.cells #[.string ⟨#[]⟩, .int .i64 0, .int .i64 0, .slice none 0 0, .int .i64 0, .int .i64 0, .int .i64 0] 46) = W at *
  have hle : Hid (w.heap.size ≤ w.heap.size + 1) := Nat.le_succ _
  generalize w.heap.size + 1 = G at *
  obtain ⟨⟨r0, r1, r2, r3, r4, r5, r6⟩, ⟨g0, g1, g2, g3, g4, g5, g6⟩, _⟩ := R.out.seven
  have R3 := hide (set7_blk R.out (.string ⟨#[]⟩) (.int .i64 0) (.int .i64 0) (.slice none 0 0) (.int .i64 0) (.int .i64 0) (.int .i64 0))
  have K3 := hide (set7_keeps K.out hle.out (.string ⟨#[]⟩) (.int .i64 0) (.int .i64 0) (.slice none 0 0) (.int .i64 0) (.int .i64 0) (.int .i64 0))
  unfold set7 at R3 K3
  go_wp2_with fail
  refine (isMade_nil _).mono ?_
  rintro e w1 ⟨rfl, rfl⟩
  go_wp2_with fail
  generalize ((((((w1.setCell ⟨G, 0, none⟩ (.string ⟨#[]⟩)).setCell ⟨G, 1, none⟩ (.int .i64 0)).setCell ⟨G, 2, none⟩ (.int .i64 0)).setCell ⟨G, 3, none⟩ (.slice none 0 0)).setCell ⟨G, 4, none⟩ (.int .i64 0)).setCell ⟨G, 5, none⟩ (.int .i64 0)).setCell ⟨G, 6, none⟩ (.int .i64 0) = W9 at *
  obtain ⟨⟨s0, s1, s2, s3, s4, s5, s6⟩, _, _⟩ := R3.out.seven
  exact bodyPost_ret (v := .tuple #[itV noIt (.slice none 0 0), .bool false]) (by simp [results, Try.results21, go_sem, s0, s1, s2, s3, s4, s5, s6, itV, noIt, noSt, noQn]) rfl ⟨_, rfl, rfl, K3.out⟩

set_option maxHeartbeats 8000000 in
set_option maxRecDepth 100000 in
theorem Peek_any (p m : Nat) (s : Sto) (now : Int) (q : Qn) (w : World) (h : SAt XG w p m s) (hq : QnFine q) :
    Calls Try.prog 21 #[.pointer (some ⟨p, 0, none⟩), .int .i64 now, .agg #[.string q.n, .int .i64 q.t, .int .i64 q.c]] w fun e w' => PeekEnd w (Sto.peek s now q) e w' := by
  have HM := hide (fun W (kk : Keeps w W) => isMade_any p m s W (h.keeps kk))
  obtain ⟨h1, h2, v, n, f, h3, h4, h5, h6, h7, h8⟩ := h
  have HL := hide (fun W (kk : Keeps w W) => (h6.keeps kk).look lawQ14 (t := 119) Try.underlying119 zeroItem q (keyQ q hq.1 hq.2.1 hq.2.2))
  obtain ⟨x, vd, hvi, hpk, hrd, av, nv, cv, rfl⟩ : ∃ x vd, (f q).getD (itV noIt (.slice none 0 0)) = itV x vd ∧ (Sto.peek s now q = if Ag.live now x.u = true then some x else none) ∧ (Ag.live now x.u = true → ReadS w vd x.set.ds ∧ x.set.ds.length ≤ 1000000) ∧ (∃ av nv cv, vd = .slice av nv cv) := by
    have HF := h8 q
    cases hfd : Sto.find s.items q with
    | none =>
      rw [hfd] at HF
      refine ⟨noIt, .slice none 0 0, ?_, ?_, ?_, _, _, _, rfl⟩
      · rw [show f q = none from HF]; rfl
      · unfold Sto.peek
        rw [hfd, show noIt.u = 0 from rfl, live_zero]
        rfl
      · intro hl
        rw [show noIt.u = 0 from rfl, live_zero] at hl
        cases hl
    | some i =>
      rw [hfd] at HF
      obtain ⟨vd, hv1, hv2, _⟩ := HF
      refine ⟨i, vd, by rw [hv1]; rfl, ?_, fun _ => ⟨hv2, (h2.fine i (Sto.find_key hfd).1).2.2.1⟩, by obtain ⟨a, c, e⟩ := hv2.len; exact ⟨_, _, _, e⟩⟩
      unfold Sto.peek
      rw [hfd]
      cases hl : Ag.live now i.u <;> simp [Option.filter, hl]
  rw [hvi] at HL
  rw [hpk]
  clear hpk hvi
  have HE0 : Hid (Ag.live now x.u = false → ∀ W, Keeps w W → PeekEnd w (if Ag.live now x.u = true then some x else none) (.returned (.tuple #[itV noIt (.slice none 0 0), .bool false])) W) := fun hl W k => by
    rw [hl]
    exact ⟨_, rfl, rfl, k⟩
  have HE1 : Hid (Ag.live now x.u = true → ∀ vd' W, OwnsR W w.heap.size 9 1 vd' (x.set.ds.map tv) → Keeps w W → PeekEnd w (if Ag.live now x.u = true then some x else none) (.returned (.tuple #[itV x vd', .bool true])) W) := fun hl vd' W o k => by
    rw [hl]
    exact ⟨_, rfl, ⟨vd', rfl, o⟩, k⟩
  generalize (if Ag.live now x.u = true then some x else none) = OI at *
  have S := hide h3
  obtain ⟨_, _, hplt⟩ := h3.four_cells
  have B := hide ((Blk.made w #[.string q.n, .int .i64 q.t, .int .i64 q.c] 32).alloc (.cells #[.string ⟨#[]⟩, .int .i64 0, .int .i64 0, .slice none 0 0, .int .i64 0, .int .i64 0, .int .i64 0] 46))
  have R := Blk.made (w.alloc (.cells #[.string q.n, .int .i64 q.t, .int .i64 q.c] 32)) #[.string ⟨#[]⟩, .int .i64 0, .int .i64 0, .slice none 0 0, .int .i64 0, .int .i64 0, .int .i64 0] 46
  rw [size_allocG] at R
  replace R := hide R
  have K := hide (((Keeps.refl w).alloc (.cells #[.string q.n, .int .i64 q.t, .int .i64 q.c] 32)).alloc (.cells #[.string ⟨#[]⟩, .int .i64 0, .int .i64 0, .slice none 0 0, .int .i64 0, .int .i64 0, .int .i64 0] 46))
  go_enter Try.func21, Try.ntmps21
  go_upto_region 1 with fail
  generalize (w.alloc (.cells #[.string q.n, .int .i64 q.t, .int .i64 q.c] 32)).alloc (.cells #[.string ⟨#[]⟩, .int .i64 0, .int .i64 0, .slice none 0 0, .int .i64 0, .int .i64 0, .int .i64 0] 46) = W at *
  have hle : Hid (w.heap.size ≤ w.heap.size + 1) := Nat.le_succ _
  have hle2 : Hid (w.heap.size ≤ w.heap.size) := Nat.le_refl _
  generalize w.heap.size + 1 = G at *
  generalize hF : w.heap.size = F at B ⊢
  clear hle2
  replace hF := hide hF
  go_wp2_with fail
  refine (HM.out _ K.out).mono ?_
  rintro e w1 ⟨rfl, rfl⟩
  go_upto_region 3 with fail
  obtain ⟨⟨_, m1, _, _⟩, _, _⟩ := (S.out.keeps K.out).four_cells
  obtain ⟨⟨b0, b1, b2⟩, _, hFl⟩ := B.out.three
  have l1 := HL.out _ K.out.drew
  have l2 := HL.out _ (K.out.alloc (.cells #[.string ⟨#[]⟩, .int .i64 0, .int .i64 0, .slice none 0 0, .int .i64 0, .int .i64 0, .int .i64 0] 46)).drew
  unfold qnV at l1 l2
  unfold itV at l1 l2
  have HOWN := hide (fun (hl : Ag.live now x.u = true) W (kk : Keeps w W) => own_any (.slice av nv cv) x W ((hrd hl).1.keeps kk) (hrd hl).2)
  unfold itV at HOWN
  go_region
  all_goals
    have I := hide (Blk.made w1 #[.string x.set.key.n, .int .i64 x.set.key.t, .int .i64 x.set.key.c, .slice av nv cv, .int .i64 x.set.ttl, .int .i64 x.u, .int .i64 x.rank] 46).drew
    have R1 := hide (R.out.alloc (.cells #[.string x.set.key.n, .int .i64 x.set.key.t, .int .i64 x.set.key.c, .slice av nv cv, .int .i64 x.set.ttl, .int .i64 x.u, .int .i64 x.rank] 46)).drew
    have K2 := hide (K.out.alloc (.cells #[.string x.set.key.n, .int .i64 x.set.key.t, .int .i64 x.set.key.c, .slice av nv cv, .int .i64 x.set.ttl, .int .i64 x.u, .int .i64 x.rank] 46)).drew
    generalize (w1.alloc (.cells #[.string x.set.key.n, .int .i64 x.set.key.t, .int .i64 x.set.key.c, .slice av nv cv, .int .i64 x.set.ttl, .int .i64 x.u, .int .i64 x.rank] 46)).drew = W2 at *
    generalize w1.heap.size = N at *
    clear m1 b0 b1 b2 hFl l1 l2 R K
    obtain ⟨⟨i0, i1, i2, i3, i4, i5, i6⟩, _, _⟩ := I.out.seven
    go_wp2_with fail
    refine (ageLive_any _ _ _).mono ?_
    rintro e w2 ⟨rfl, rfl⟩
    cases hlv : Ag.live now x.u
    · obtain ⟨⟨r0, r1, r2, r3, r4, r5, r6⟩, ⟨g0, g1, g2, g3, g4, g5, g6⟩, _⟩ := R1.out.seven
      have R3 := hide (set7_blk R1.out (.string ⟨#[]⟩) (.int .i64 0) (.int .i64 0) (.slice none 0 0) (.int .i64 0) (.int .i64 0) (.int .i64 0))
      have K3 := hide (set7_keeps K2.out hle.out (.string ⟨#[]⟩) (.int .i64 0) (.int .i64 0) (.slice none 0 0) (.int .i64 0) (.int .i64 0) (.int .i64 0))
      unfold set7 at R3 K3
      clear R1 K2 I
      go_wp2_with fail
      generalize ((((((w2.setCell ⟨G, 0, none⟩ (.string ⟨#[]⟩)).setCell ⟨G, 1, none⟩ (.int .i64 0)).setCell ⟨G, 2, none⟩ (.int .i64 0)).setCell ⟨G, 3, none⟩ (.slice none 0 0)).setCell ⟨G, 4, none⟩ (.int .i64 0)).setCell ⟨G, 5, none⟩ (.int .i64 0)).setCell ⟨G, 6, none⟩ (.int .i64 0) = W9 at *
      obtain ⟨⟨s0, s1, s2, s3, s4, s5, s6⟩, _, _⟩ := R3.out.seven
      exact bodyPost_ret (v := .tuple #[itV noIt (.slice none 0 0), .bool false]) (by simp [results, Try.results21, go_sem, s0, s1, s2, s3, s4, s5, s6, itV, noIt, noSt, noQn]) rfl (HE0.out hlv _ K3.out)
    · go_wp2_with fail
      refine (HOWN.out hlv _ K2.out).mono ?_
      intro e w3 hE
      obtain ⟨vo, rfl, oo, k3⟩ := hE
      obtain ⟨ao, co, rfl⟩ := oo.form
      have R2 := hide (R1.out.keeps k3)
      have K3 := hide (K2.out.trans k3)
      have hGlt := R1.out.lt
      obtain ⟨⟨r0, r1, r2, r3, r4, r5, r6⟩, ⟨g0, g1, g2, g3, g4, g5, g6⟩, _⟩ := R2.out.seven
      unfold itV
      generalize hDD : (x.set.ds.map tv) = D at *
      have R4 := hide (set7_blk R2.out (.string x.set.key.n) (.int .i64 x.set.key.t) (.int .i64 x.set.key.c) (.slice ao D.length co) (.int .i64 x.set.ttl) (.int .i64 x.u) (.int .i64 x.rank))
      have K4 := hide (set7_keeps K3.out hle.out (.string x.set.key.n) (.int .i64 x.set.key.t) (.int .i64 x.set.key.c) (.slice ao D.length co) (.int .i64 x.set.ttl) (.int .i64 x.u) (.int .i64 x.rank))
      have O4 := hide ((oo.set7 hGlt (.string x.set.key.n) (.int .i64 x.set.key.t) (.int .i64 x.set.key.c) (.slice ao D.length co) (.int .i64 x.set.ttl) (.int .i64 x.u) (.int .i64 x.rank)).le K2.out.size)
      unfold set7 at R4 K4 O4
      clear R1 R2 K2 K3 I oo k3
      go_wp2_with fail
      generalize ((((((w3.setCell ⟨G, 0, none⟩ (.string x.set.key.n)).setCell ⟨G, 1, none⟩ (.int .i64 x.set.key.t)).setCell ⟨G, 2, none⟩ (.int .i64 x.set.key.c)).setCell ⟨G, 3, none⟩ (.slice ao D.length co)).setCell ⟨G, 4, none⟩ (.int .i64 x.set.ttl)).setCell ⟨G, 5, none⟩ (.int .i64 x.u)).setCell ⟨G, 6, none⟩ (.int .i64 x.rank) = W9 at *
      obtain ⟨⟨s0, s1, s2, s3, s4, s5, s6⟩, _, _⟩ := R4.out.seven
      subst hDD
      exact bodyPost_ret (v := .tuple #[itV x (.slice ao (x.set.ds.map tv).length co), .bool true]) (by simp [results, Try.results21, go_sem, s0, s1, s2, s3, s4, s5, s6, itV]) rfl (HE1.out hlv _ _ O4.out K4.out)
end Go.Proofs.Ytdlaepfnogmebaa

namespace Go.Proofs.Ytdlaepfnogmebaa
open Go.RowKit
variable {XG : Nat → Prop}

/-- What Get answers, and what it leaves. -/
def GetEnd (XG : Nat → Prop) (w : World) (p m : Nat) (oi : Option It) (s' : Sto) (e : Ending) (w' : World) : Prop := ∃ vi, e = .returned (.tuple #[vi, .bool oi.isSome]) ∧ TellOk w' w.heap.size oi vi ∧ SAt XG w' p m s' ∧ KB p m w w'
theorem TellOk.le {w : World} {B B' : Nat} {oi : Option It} {vi : Value} (h : TellOk w B oi vi) (hb : B' ≤ B) : TellOk w B' oi vi := by
  cases oi with
  | none => exact h
  | some i =>
    obtain ⟨vd, h1, h2⟩ := h
    exact ⟨vd, h1, h2.le hb⟩
theorem TellOk.keeps {w w' : World} {B : Nat} {oi : Option It} {vi : Value} (h : TellOk w B oi vi) (k : Keeps w w') : TellOk w' B oi vi := by
  cases oi with
  | none => exact h
  | some i =>
    obtain ⟨vd, h1, h2⟩ := h
    exact ⟨vd, h1, h2.below k⟩
/-- What is told is a struct of seven cells. -/
theorem TellOk.form {w : World} {B : Nat} {oi : Option It} {vi : Value} (h : TellOk w B oi vi) : ∃ n t c a l cp ttl u rk, vi = .agg #[.string n, .int .i64 t, .int .i64 c, .slice a l cp, .int .i64 ttl, .int .i64 u, .int .i64 rk] := by
  cases oi with
  | none => rw [show vi = itV noIt (.slice none 0 0) from h]; exact ⟨_, _, _, _, _, _, _, _, _, rfl⟩
  | some i =>
    obtain ⟨vd, rfl, h2⟩ := h
    obtain ⟨a, c, rfl⟩ := h2.form
    exact ⟨_, _, _, _, _, _, _, _, _, rfl⟩
theorem TellOk.set7 {w : World} {B : Nat} {oi : Option It} {vi : Value} (h : TellOk w B oi vi) {G : Nat} (hG : G < B) (a b c d e f g : Value) : TellOk (set7 w G a b c d e f g) B oi vi := by
  cases oi with
  | none => exact (show vi = itV noIt (.slice none 0 0) from h)
  | some i =>
    obtain ⟨vd, h1, h2⟩ := h
    exact ⟨vd, h1, h2.set7 hG _ _ _ _ _ _ _⟩

theorem TellOk.setOther {w : World} {B : Nat} {oi : Option It} {vi : Value} (h : TellOk w B oi vi) {a : Addr} (ha : a.block < B) (u : Value) : TellOk (w.setCell a u) B oi vi := by
  cases oi with
  | none => exact (show vi = itV noIt (.slice none 0 0) from h)
  | some i =>
    obtain ⟨vd, h1, h2⟩ := h
    exact ⟨vd, h1, h2.setOther ha u⟩
theorem KB.setNew {p m : Nat} {a b : World} (h : KB p m a b) {x : Addr} (hx : a.heap.size ≤ x.block) (u : Value) : KB p m a (b.setCell x u) :=
  ⟨h.os, h.tape, h.output, by rw [show (b.setCell x u).heap.size = b.heap.size by simp [World.setCell]]; exact h.size, fun k hk hp hm => (Below.heap_setCell _ _ _ _ (by omega)).trans (h.block k hk hp hm)⟩
theorem KB.set7 {p m : Nat} {w W : World} (h : KB p m w W) {G : Nat} (hle : w.heap.size ≤ G) (a b c d e f g : Value) : KB p m w (set7 W G a b c d e f g) :=
  ((((((h.setNew (x := ⟨G, 0, none⟩) hle a).setNew (x := ⟨G, 1, none⟩) hle b).setNew (x := ⟨G, 2, none⟩) hle c).setNew (x := ⟨G, 3, none⟩) hle d).setNew (x := ⟨G, 4, none⟩) hle e).setNew (x := ⟨G, 5, none⟩) hle f).setNew (x := ⟨G, 6, none⟩) hle g
theorem heap_set7 (W : World) (G : Nat) (a b c d e f g : Value) (k : Nat) (hk : k ≠ G) : (set7 W G a b c d e f g).heap[k]? = W.heap[k]? := by
  unfold set7
  rw [Below.heap_setCell _ _ _ _ hk, Below.heap_setCell _ _ _ _ hk, Below.heap_setCell _ _ _ _ hk, Below.heap_setCell _ _ _ _ hk, Below.heap_setCell _ _ _ _ hk, Below.heap_setCell _ _ _ _ hk, Below.heap_setCell _ _ _ _ hk]

set_option maxHeartbeats 8000000 in
set_option maxRecDepth 100000 in
theorem Get_nil (now : Int) (q : Qn) (w : World) :
    Calls Try.prog 17 #[.pointer none, .int .i64 now, .agg #[.string q.n, .int .i64 q.t, .int .i64 q.c]] w fun e w' => PeekEnd w none e w' := by
  have B := hide ((Blk.made w #[.string q.n, .int .i64 q.t, .int .i64 q.c] 32).alloc (.cells #[.string ⟨#[]⟩, .int .i64 0, .int .i64 0, .slice none 0 0, .int .i64 0, .int .i64 0, .int .i64 0] 46))
  have R := Blk.made (w.alloc (.cells #[.string q.n, .int .i64 q.t, .int .i64 q.c] 32)) #[.string ⟨#[]⟩, .int .i64 0, .int .i64 0, .slice none 0 0, .int .i64 0, .int .i64 0, .int .i64 0] 46
  rw [size_allocG] at R
  replace R := hide R
  have K := hide (((Keeps.refl w).alloc (.cells #[.string q.n, .int .i64 q.t, .int .i64 q.c] 32)).alloc (.cells #[.string ⟨#[]⟩, .int .i64 0, .int .i64 0, .slice none 0 0, .int .i64 0, .int .i64 0, .int .i64 0] 46))
  go_enter Try.func17, Try.ntmps17
  go_upto_region 1 with fail
  generalize (w.alloc (.cells #[.string q.n, .int .i64 q.t, .int .i64 q.c] 32)).alloc (.cells #[.string ⟨#[]⟩, .int .i64 0, .int .i64 0, .slice none 0 0, .int .i64 0, .int .i64 0, .int .i64 0] 46) = W at *
  have hle : Hid (w.heap.size ≤ w.heap.size + 1) := Nat.le_succ _
  generalize w.heap.size + 1 = G at *
  generalize hF : w.heap.size = F at B ⊢
  replace hF := hide hF
  obtain ⟨⟨b0, b1, b2⟩, _, _⟩ := B.out.three
  go_wp2_with fail
  refine (Peek_nil _ q _).mono ?_
  intro e w1 hE
  obtain ⟨vi, rfl, rfl, k1⟩ := hE
  replace R := hide (R.out.keeps k1)
  replace K := hide (K.out.trans k1)
  clear B b0 b1 b2 k1
  unfold itV noIt noSt noQn
  simp only [Option.isSome_none]
  have I := hide (Blk.made w1 #[.string ⟨#[]⟩, .int .i64 0, .int .i64 0, .slice none 0 0, .int .i64 0, .int .i64 0, .int .i64 0] 46)
  replace R := hide (R.out.alloc (.cells #[.string ⟨#[]⟩, .int .i64 0, .int .i64 0, .slice none 0 0, .int .i64 0, .int .i64 0, .int .i64 0] 46))
  replace K := hide (K.out.alloc (.cells #[.string ⟨#[]⟩, .int .i64 0, .int .i64 0, .slice none 0 0, .int .i64 0, .int .i64 0, .int .i64 0] 46))
  go_upto_region 2 with fail
  generalize w1.alloc (.cells #[.string ⟨#[]⟩, .int .i64 0, .int .i64 0, .slice none 0 0, .int .i64 0, .int .i64 0, .int .i64 0] 46) = W2 at *
  generalize w1.heap.size = N at *
  obtain ⟨⟨i0, i1, i2, i3, i4, i5, i6⟩, _, _⟩ := I.out.seven
  obtain ⟨⟨r0, r1, r2, r3, r4, r5, r6⟩, ⟨g0, g1, g2, g3, g4, g5, g6⟩, _⟩ := R.out.seven
  have R3 := hide (set7_blk R.out (.string ⟨#[]⟩) (.int .i64 0) (.int .i64 0) (.slice none 0 0) (.int .i64 0) (.int .i64 0) (.int .i64 0))
  have K3 := hide (set7_keeps K.out hle.out (.string ⟨#[]⟩) (.int .i64 0) (.int .i64 0) (.slice none 0 0) (.int .i64 0) (.int .i64 0) (.int .i64 0))
  unfold set7 at R3 K3
  clear R K I
  go_wp2_with fail
  generalize ((((((W2.setCell ⟨G, 0, none⟩ (.string ⟨#[]⟩)).setCell ⟨G, 1, none⟩ (.int .i64 0)).setCell ⟨G, 2, none⟩ (.int .i64 0)).setCell ⟨G, 3, none⟩ (.slice none 0 0)).setCell ⟨G, 4, none⟩ (.int .i64 0)).setCell ⟨G, 5, none⟩ (.int .i64 0)).setCell ⟨G, 6, none⟩ (.int .i64 0) = W9 at *
  obtain ⟨⟨s0, s1, s2, s3, s4, s5, s6⟩, _, _⟩ := R3.out.seven
  exact bodyPost_ret (v := .tuple #[itV noIt (.slice none 0 0), .bool false]) (by simp [results, Try.results17, go_sem, s0, s1, s2, s3, s4, s5, s6, itV, noIt, noSt, noQn]) rfl ⟨_, rfl, rfl, K3.out⟩

theorem get_some {s : Sto} {now : Int} {q : Qn} {i : It} (h : Sto.peek s now q = some i) : Sto.find s.items q = some i ∧ Sto.get s now q = ⟨s.room, Sto.without s.items q ++ [i], s.changes⟩ := by
  refine ⟨?_, by unfold Sto.get; rw [h]⟩
  unfold Sto.peek at h
  cases hf : Sto.find s.items q with
  | none => rw [hf] at h; cases h
  | some j =>
    rw [hf] at h
    simp only [Option.filter] at h
    split at h
    · exact h
    · cases h
/-- What is found of a store whose item was used. -/
theorem find_used {l : List It} {q : Qn} {i : It} (h : Sto.find l q = some i) (k : Qn) : Sto.find (Sto.without l q ++ [i]) k = Sto.find l k := by
  have hk := (Sto.find_key h).2
  rw [Sto.find_append, Sto.find_without]
  by_cases e : k = q
  · subst e
    rw [if_pos rfl, h]
    simp [Sto.find, hk]
  · rw [if_neg e]
    have : Sto.find [i] k = none := by simp [Sto.find, hk, Ne.symm e]
    rw [this]
    cases Sto.find l k <;> rfl
theorem used_ok {s : Sto} {q : Qn} {i : It} (h : StoOk s) (hf : Sto.find s.items q = some i) : StoOk ⟨s.room, Sto.without s.items q ++ [i], s.changes⟩ := by
  obtain ⟨hm, hk⟩ := Sto.find_key hf
  have hlen : (Sto.without s.items q).length < s.items.length := by
    unfold Sto.without
    exact List.length_filter_lt_length_iff_exists.2 ⟨i, hm, by simp [hk]⟩
  have hkeys : Sto.keysL (Sto.without s.items q ++ [i]) = Lr.touch s.keys q := by
    rw [← hk]; exact Sto.touch_keys _ _
  refine ⟨h.room, ?_, ?_, ?_, h.count⟩
  · have := h.len
    simp only [List.length_append, List.length_singleton]
    omega
  · show (Sto.keysL _).Nodup
    rw [hkeys]
    exact Sto.nodup_touch h.nodup q
  · intro j hj
    rw [List.mem_append, List.mem_singleton] at hj
    rcases hj with hj | hj
    · exact h.fine j (List.mem_filter.1 hj).1
    · subst hj; exact h.fine j hm

set_option maxHeartbeats 16000000 in
set_option maxRecDepth 100000 in
theorem Get_any (p m : Nat) (s : Sto) (now : Int) (q : Qn) (w : World) (h : SAt XG w p m s) (hq : QnFine q) :
    Calls Try.prog 17 #[.pointer (some ⟨p, 0, none⟩), .int .i64 now, .agg #[.string q.n, .int .i64 q.t, .int .i64 q.c]] w fun e w' => GetEnd XG w p m (Sto.peek s now q) (Sto.get s now q) e w' := by
  have HP := hide (fun W (kk : Keeps w W) => Peek_any p m s now q W (h.keeps kk) hq)
  have hS := hide h
  have hplt := h.lt.1
  have B := hide ((Blk.made w #[.string q.n, .int .i64 q.t, .int .i64 q.c] 32).alloc (.cells #[.string ⟨#[]⟩, .int .i64 0, .int .i64 0, .slice none 0 0, .int .i64 0, .int .i64 0, .int .i64 0] 46))
  have R := Blk.made (w.alloc (.cells #[.string q.n, .int .i64 q.t, .int .i64 q.c] 32)) #[.string ⟨#[]⟩, .int .i64 0, .int .i64 0, .slice none 0 0, .int .i64 0, .int .i64 0, .int .i64 0] 46
  rw [size_allocG] at R
  replace R := hide R
  have K := hide (((Keeps.refl w).alloc (.cells #[.string q.n, .int .i64 q.t, .int .i64 q.c] 32)).alloc (.cells #[.string ⟨#[]⟩, .int .i64 0, .int .i64 0, .slice none 0 0, .int .i64 0, .int .i64 0, .int .i64 0] 46))
  have HSOME : Hid (∀ i, Sto.peek s now q = some i → Sto.find s.items q = some i ∧ Sto.get s now q = ⟨s.room, Sto.without s.items q ++ [i], s.changes⟩) := fun i hi => get_some hi
  have HNONE : Hid (Sto.peek s now q = none → Sto.get s now q = s) := fun hi => by unfold Sto.get; rw [hi]
  generalize Sto.get s now q = s' at *
  generalize Sto.peek s now q = oi at *
  go_enter Try.func17, Try.ntmps17
  go_upto_region 1 with fail
  generalize (w.alloc (.cells #[.string q.n, .int .i64 q.t, .int .i64 q.c] 32)).alloc (.cells #[.string ⟨#[]⟩, .int .i64 0, .int .i64 0, .slice none 0 0, .int .i64 0, .int .i64 0, .int .i64 0] 46) = W at *
  have hle : Hid (w.heap.size ≤ w.heap.size + 1) := Nat.le_succ _
  have hpG : Hid (p ≠ w.heap.size + 1 ∧ p ≠ w.heap.size) := by rw [Hid]; omega
  generalize w.heap.size + 1 = G at *
  generalize hF : w.heap.size = F at B hpG ⊢
  replace hF := hide hF
  obtain ⟨⟨b0, b1, b2⟩, _, _⟩ := B.out.three
  have hGW := hide R.out.lt
  have hwW := hide K.out.size
  go_wp2_with fail
  refine (HP.out _ K.out).mono ?_
  intro e w1 hE
  obtain ⟨vi, rfl, ht, k1⟩ := hE
  obtain ⟨xn, xt, xc, xa, xl, xp, xttl, xu, xr, rfl⟩ := ht.form
  have HT := hide ht
  replace R := hide (R.out.keeps k1)
  have B1 := hide (B.out.keeps k1)
  have hw1 : Hid (W.heap.size ≤ w1.heap.size) := k1.size
  replace K := hide (K.out.trans k1)
  clear B b0 b1 b2 k1 ht HP
  have I := hide (Blk.made w1 #[.string xn, .int .i64 xt, .int .i64 xc, .slice xa xl xp, .int .i64 xttl, .int .i64 xu, .int .i64 xr] 46)
  replace R := hide (R.out.alloc (.cells #[.string xn, .int .i64 xt, .int .i64 xc, .slice xa xl xp, .int .i64 xttl, .int .i64 xu, .int .i64 xr] 46))
  replace B1 := hide (B1.out.alloc (.cells #[.string xn, .int .i64 xt, .int .i64 xc, .slice xa xl xp, .int .i64 xttl, .int .i64 xu, .int .i64 xr] 46))
  replace K := hide (K.out.alloc (.cells #[.string xn, .int .i64 xt, .int .i64 xc, .slice xa xl xp, .int .i64 xttl, .int .i64 xu, .int .i64 xr] 46))
  replace HT := hide (HT.out.keeps ((Keeps.refl w1).alloc (.cells #[.string xn, .int .i64 xt, .int .i64 xc, .slice xa xl xp, .int .i64 xttl, .int .i64 xu, .int .i64 xr] 46)))
  go_upto_region 2 with fail
  generalize w1.alloc (.cells #[.string xn, .int .i64 xt, .int .i64 xc, .slice xa xl xp, .int .i64 xttl, .int .i64 xu, .int .i64 xr] 46) = W2 at *
  have hpN : Hid (p ≠ w1.heap.size) := by
    have := hw1.out
    have := hwW.out
    rw [Hid]; omega
  generalize w1.heap.size = N at *
  cases oi with
  | none =>
    have hs' := hide (HNONE.out rfl)
    clear HNONE HSOME
    obtain ⟨⟨i0, i1, i2, i3, i4, i5, i6⟩, _, _⟩ := I.out.seven
    obtain ⟨⟨r0, r1, r2, r3, r4, r5, r6⟩, ⟨g0, g1, g2, g3, g4, g5, g6⟩, _⟩ := R.out.seven
    have R3 := hide (set7_blk R.out (.string xn) (.int .i64 xt) (.int .i64 xc) (.slice xa xl xp) (.int .i64 xttl) (.int .i64 xu) (.int .i64 xr))
    have K3 := hide (set7_keeps K.out hle.out (.string xn) (.int .i64 xt) (.int .i64 xc) (.slice xa xl xp) (.int .i64 xttl) (.int .i64 xu) (.int .i64 xr))
    have T3 := hide ((HT.out.set7 hGW.out (.string xn) (.int .i64 xt) (.int .i64 xc) (.slice xa xl xp) (.int .i64 xttl) (.int .i64 xu) (.int .i64 xr)))
    unfold set7 at R3 K3 T3
    simp only [Option.isSome_none]
    go_wp2_with fail
    generalize ((((((W2.setCell ⟨G, 0, none⟩ (.string xn)).setCell ⟨G, 1, none⟩ (.int .i64 xt)).setCell ⟨G, 2, none⟩ (.int .i64 xc)).setCell ⟨G, 3, none⟩ (.slice xa xl xp)).setCell ⟨G, 4, none⟩ (.int .i64 xttl)).setCell ⟨G, 5, none⟩ (.int .i64 xu)).setCell ⟨G, 6, none⟩ (.int .i64 xr) = W9 at *
    obtain ⟨⟨s0, s1, s2, s3, s4, s5, s6⟩, _, _⟩ := R3.out.seven
    have hEND : GetEnd XG w p m none s' (.returned (.tuple #[.agg #[.string xn, .int .i64 xt, .int .i64 xc, .slice xa xl xp, .int .i64 xttl, .int .i64 xu, .int .i64 xr], .bool false])) W9 :=
      ⟨_, rfl, T3.out.le hwW.out, by rw [hs'.out]; exact hS.out.keeps K3.out, KB.of K3.out⟩
    exact bodyPost_ret (v := .tuple #[.agg #[.string xn, .int .i64 xt, .int .i64 xc, .slice xa xl xp, .int .i64 xttl, .int .i64 xu, .int .i64 xr], .bool false]) (by simp [results, Try.results17, go_sem, s0, s1, s2, s3, s4, s5, s6]) rfl hEND
  | some x =>
    obtain ⟨hfd, hs'⟩ := HSOME.out x rfl
    clear HSOME HNONE
    replace hfd := hide hfd
    replace hs' := hide hs'
    obtain ⟨h1, h2, v, n, f, h3, h4, h5, h6, h7, h8⟩ := hS.out
    have hmlt := h6.lt
    have hks := keys_small h2
    have HTC := hide (fun W (kk : Keeps w W) => Touch_q v s.keys q W (h4.keeps kk) (by omega))
    have S2 := hide (h3.keeps K.out)
    obtain ⟨⟨_, _, m2, _⟩, _, _⟩ := S2.out.four_cells
    obtain ⟨⟨b0, b1, b2⟩, _, _⟩ := B1.out.three
    have KD := hide ((Keeps.refl W2).drew)
    simp only [Option.isSome_some]
    have hpW2 : Hid (p < W2.heap.size) := S2.out.lt
    have hmW2 : Hid (m < W2.heap.size) := (h6.keeps K.out).lt
    have hGW2 : Hid (G < W2.heap.size) := R.out.lt
    go_upto_region 3 with fail
    go_region_with (go_at_call 78; refine (HTC.out _ (K.out.trans KD.out)).mono ?_; intro e w5 hE; obtain ⟨vt, rfl, ot, k5⟩ := hE; obtain ⟨za, zc, hz⟩ := ot.form; rw [List.length_map] at hz; subst hz; replace ot := hide ot; have S5 := hide (S2.out.keeps (KD.out.trans k5)); obtain ⟨⟨_, _, n2, _⟩, ⟨_, _, y2, _⟩, _⟩ := S5.out.four_cells)
    all_goals
      have I5 := hide ((I.out.keeps (KD.out.trans k5)).other (a := ⟨p, 2, none⟩) hpN.out (.slice za (Lr.touch s.keys q).length zc))
      have R5 := hide ((R.out.keeps (KD.out.trans k5)).other (a := ⟨p, 2, none⟩) hpG.out.1 (.slice za (Lr.touch s.keys q).length zc))
      have P5 := hide (show Blk (w5.setCell ⟨p, 2, none⟩ (.slice za (Lr.touch s.keys q).length zc)) p #[.int .i64 s.room, .map (some m), .slice za (Lr.touch s.keys q).length zc, .int .i64 s.changes] 121 by have := S5.out.set 2 (.slice za (Lr.touch s.keys q).length zc); simpa using this)
      have O5 := hide (ot.out.setOther (a := ⟨p, 2, none⟩) hpW2.out (.slice za (Lr.touch s.keys q).length zc))
      have T5 := hide ((HT.out.keeps (KD.out.trans k5)).setOther (a := ⟨p, 2, none⟩) (Nat.lt_of_lt_of_le hplt hwW.out) (.slice za (Lr.touch s.keys q).length zc))
      have KB5 := hide ((KB.of (p := p) (m := m) (K.out.trans (KD.out.trans k5))).trans (KB.setP w5 2 (.slice za (Lr.touch s.keys q).length zc)))
      have M5 : Hid ((w5.setCell ⟨p, 2, none⟩ (.slice za (Lr.touch s.keys q).length zc)).heap[m]? = w.heap[m]?) := (Below.heap_setCell _ _ _ _ (fun e => h1 e.symm)).trans ((K.out.trans (KD.out.trans k5)).block m hmlt)
      generalize w5.setCell ⟨p, 2, none⟩ (.slice za (Lr.touch s.keys q).length zc) = W5 at *
      clear m2 b0 b1 b2 n2 y2 ot S5 S2 k5 KD B1 HTC
      obtain ⟨⟨i0, i1, i2, i3, i4, i5, i6⟩, _, _⟩ := I5.out.seven
      obtain ⟨⟨r0, r1, r2, r3, r4, r5, r6⟩, ⟨g0, g1, g2, g3, g4, g5, g6⟩, _⟩ := R5.out.seven
      have hGm : Hid (m ≠ G) := by have := hle.out; rw [Hid]; omega
      have R3 := hide (set7_blk R5.out (.string xn) (.int .i64 xt) (.int .i64 xc) (.slice xa xl xp) (.int .i64 xttl) (.int .i64 xu) (.int .i64 xr))
      have KB3 := hide (KB5.out.set7 hle.out (.string xn) (.int .i64 xt) (.int .i64 xc) (.slice xa xl xp) (.int .i64 xttl) (.int .i64 xu) (.int .i64 xr))
      have T3 := hide (T5.out.set7 hGW.out (.string xn) (.int .i64 xt) (.int .i64 xc) (.slice xa xl xp) (.int .i64 xttl) (.int .i64 xu) (.int .i64 xr))
      have O3 := hide (O5.out.set7 hGW2.out (.string xn) (.int .i64 xt) (.int .i64 xc) (.slice xa xl xp) (.int .i64 xttl) (.int .i64 xu) (.int .i64 xr))
      have M3 := hide ((heap_set7 W5 G (.string xn) (.int .i64 xt) (.int .i64 xc) (.slice xa xl xp) (.int .i64 xttl) (.int .i64 xu) (.int .i64 xr) m hGm.out).trans M5.out)
      have P3 := hide (show Blk (set7 W5 G (.string xn) (.int .i64 xt) (.int .i64 xc) (.slice xa xl xp) (.int .i64 xttl) (.int .i64 xu) (.int .i64 xr)) p _ _ from (heap_set7 W5 G (.string xn) (.int .i64 xt) (.int .i64 xc) (.slice xa xl xp) (.int .i64 xttl) (.int .i64 xu) (.int .i64 xr) p hpG.out.1).trans P5.out)
      unfold set7 at R3 KB3 T3 O3 M3 P3
      clear I5 R5 P5 O5 T5 KB5 M5
      go_wp2_with fail
      generalize ((((((W5.setCell ⟨G, 0, none⟩ (.string xn)).setCell ⟨G, 1, none⟩ (.int .i64 xt)).setCell ⟨G, 2, none⟩ (.int .i64 xc)).setCell ⟨G, 3, none⟩ (.slice xa xl xp)).setCell ⟨G, 4, none⟩ (.int .i64 xttl)).setCell ⟨G, 5, none⟩ (.int .i64 xu)).setCell ⟨G, 6, none⟩ (.int .i64 xr) = W9 at *
      obtain ⟨⟨s0, s1, s2, s3, s4, s5, s6⟩, _, _⟩ := R3.out.seven
      have hq' := (Sto.find_key hfd.out).2
      have hkeys : Sto.keys ⟨s.room, Sto.without s.items q ++ [x], s.changes⟩ = Lr.touch s.keys q := by
        have := Sto.touch_keys s.items x
        rw [hq'] at this
        exact this
      have hSAT : SAt XG W9 p m s' := by
        rw [hs'.out]
        refine ⟨h1, used_ok h2 hfd.out, _, n, f, P3.out, ?_, O3.out.pl hpW2.out hmW2.out (fun g hg => Nat.lt_of_lt_of_le (h5.gl g hg) K.out.size) (fun g hg => Nat.lt_of_lt_of_le (h5.gl g hg) KB3.out.size), h6.same M3.out, h7, fun k => ?_⟩
        · rw [hkeys]; exact O3.out.read
        · rw [show Sto.find (Sto.without s.items q ++ [x]) k = Sto.find s.items k from find_used hfd.out k]
          exact (h8 k).kb KB3.out
      have hEND : GetEnd XG w p m (some x) s' (.returned (.tuple #[.agg #[.string xn, .int .i64 xt, .int .i64 xc, .slice xa xl xp, .int .i64 xttl, .int .i64 xu, .int .i64 xr], .bool true])) W9 :=
        ⟨_, rfl, T3.out.le hwW.out, hSAT, KB3.out⟩
      exact bodyPost_ret (v := .tuple #[.agg #[.string xn, .int .i64 xt, .int .i64 xc, .slice xa xl xp, .int .i64 xttl, .int .i64 xu, .int .i64 xr], .bool true]) (by simp [results, Try.results17, go_sem, s0, s1, s2, s3, s4, s5, s6]) rfl hEND
end Go.Proofs.Ytdlaepfnogmebaa
