/- What is not there is looked into: what is told is the caller's own. No condition but lengths. -/
import Derived.Test.YtedcjkfiljjpiaaNgR
namespace Go.Proofs.Ytedcjkfiljjpiaa
open Go.RowKit

/-- An item whose data are the caller's own. -/
def OwnNEnd (w : World) (i : Ni) (e : Ending) (w' : World) : Prop := ∃ vd, e = .returned (niV i vd) ∧ OwnsR w' w.heap.size 9 1 vd (i.soa.ds.map tv) ∧ Keeps w w'

set_option maxHeartbeats 8000000 in
set_option maxRecDepth 100000 in
theorem ownN_any (vd : Value) (i : Ni) (w : World) (hv : ReadS w vd i.soa.ds) (hl : i.soa.ds.length ≤ 1000000) :
    Calls Try.prog 44 #[niV i vd] w fun e w' => OwnNEnd w i e w' := by
  have HC := hide (fun W (kk : Keeps w W) => Clone_t vd (i.soa.ds.map tv) W ((readS_tv hv).keeps kk) (fun r hr => by obtain ⟨x, _, rfl⟩ := List.mem_map.1 hr; rfl) (fun r hr u hu => by obtain ⟨x, _, rfl⟩ := List.mem_map.1 hr; exact tv_ones x u hu) (by rw [List.length_map]; omega))
  have HE : Hid (∀ (vd' : Value) (W : World), OwnsR W w.heap.size 9 1 vd' (i.soa.ds.map tv) → Keeps w W → OwnNEnd w i (.returned (niV i vd')) W) := fun vd' W h k => ⟨vd', rfl, h, k⟩
  unfold niV at HE ⊢
  generalize i.key.n = n at *
  generalize i.key.t = t at *
  generalize i.key.c = c at *
  generalize i.nx = nx at *
  generalize i.soa.key.n = sn at *
  generalize i.soa.key.t = st at *
  generalize i.soa.key.c = sc at *
  generalize i.soa.ttl = ttl at *
  generalize i.u = u at *
  generalize hD : i.soa.ds.map tv = D at *
  have A := hide ((Blk.made w #[.string n, .int .i64 t, .int .i64 c, .bool nx, .string sn, .int .i64 st, .int .i64 sc, vd, .int .i64 ttl, .int .i64 u] 48).alloc (.cells #[.string ⟨#[]⟩, .int .i64 0, .int .i64 0, .bool false, .string ⟨#[]⟩, .int .i64 0, .int .i64 0, .slice none 0 0, .int .i64 0, .int .i64 0] 48))
  have R := Blk.made (w.alloc (.cells #[.string n, .int .i64 t, .int .i64 c, .bool nx, .string sn, .int .i64 st, .int .i64 sc, vd, .int .i64 ttl, .int .i64 u] 48)) #[.string ⟨#[]⟩, .int .i64 0, .int .i64 0, .bool false, .string ⟨#[]⟩, .int .i64 0, .int .i64 0, .slice none 0 0, .int .i64 0, .int .i64 0] 48
  rw [size_allocG] at R
  replace R := hide R
  have K := hide (((Keeps.refl w).alloc (.cells #[.string n, .int .i64 t, .int .i64 c, .bool nx, .string sn, .int .i64 st, .int .i64 sc, vd, .int .i64 ttl, .int .i64 u] 48)).alloc (.cells #[.string ⟨#[]⟩, .int .i64 0, .int .i64 0, .bool false, .string ⟨#[]⟩, .int .i64 0, .int .i64 0, .slice none 0 0, .int .i64 0, .int .i64 0] 48))
  go_enter Try.func44, Try.ntmps44
  go_upto_region 1 with fail
  generalize (w.alloc (.cells #[.string n, .int .i64 t, .int .i64 c, .bool nx, .string sn, .int .i64 st, .int .i64 sc, vd, .int .i64 ttl, .int .i64 u] 48)).alloc (.cells #[.string ⟨#[]⟩, .int .i64 0, .int .i64 0, .bool false, .string ⟨#[]⟩, .int .i64 0, .int .i64 0, .slice none 0 0, .int .i64 0, .int .i64 0] 48) = W at *
  have hle : Hid (w.heap.size ≤ w.heap.size + 1) := Nat.le_succ _
  have hne : Hid (w.heap.size + 1 ≠ w.heap.size) := by rw [Hid]; omega
  have hlA : Hid (w.heap.size ≤ w.heap.size) := Nat.le_refl _
  generalize w.heap.size + 1 = G at *
  generalize hF : w.heap.size = F at A ⊢ hne
  rw [hF] at hlA
  have hlF : Hid (w.heap.size ≤ F) := by rw [Hid, hF]; exact Nat.le_refl _
  clear hF hlA
  obtain ⟨⟨a0, a1, a2, a3, a4, a5, a6, a7, a8, a9⟩, _, _⟩ := A.out.ten
  go_wp2_with fail
  refine (HC.out _ K.out).mono ?_
  intro e w1 hE
  obtain ⟨v', rfl, o1, k1⟩ := hE
  obtain ⟨av, cv, rfl⟩ := o1.form
  have A1 := hide (A.out.keeps k1)
  have R1 := hide (R.out.keeps k1)
  have hFW := A.out.lt
  have hGW := R.out.lt
  have O1 := hide (o1.setOther (a := ⟨F, 7, none⟩) hFW (.slice av D.length cv))
  have K1 := hide (K.out.trans k1)
  clear a0 a1 a2 a3 a4 a5 a6 a7 a8 a9 k1 o1
  obtain ⟨⟨a0, a1, a2, a3, a4, a5, a6, a7, a8, a9⟩, ⟨_, _, _, _, _, _, _, f7, _, _⟩, _⟩ := A1.out.ten
  have A2 := hide (A1.out.set 7 (.slice av D.length cv))
  have R2 := hide (R1.out.other (a := ⟨F, 7, none⟩) (fun e => hne.out e.symm) (.slice av D.length cv))
  go_upto_region 2 with fail
  have K2 := hide (K1.out.setC ⟨F, 7, none⟩ hlF.out (.slice av D.length cv))
  generalize w1.setCell ⟨F, 7, none⟩ (.slice av D.length cv) = W2 at *
  clear a0 a1 a2 a3 a4 a5 a6 a7 a8 a9 A1 R1 K1 f7 A R
  obtain ⟨⟨a0, a1, a2, a3, a4, a5, a6, a7, a8, a9⟩, _, _⟩ := (show Blk W2 F #[.string n, .int .i64 t, .int .i64 c, .bool nx, .string sn, .int .i64 st, .int .i64 sc, .slice av D.length cv, .int .i64 ttl, .int .i64 u] 48 by have := A2.out; simpa using this).ten
  obtain ⟨⟨r0, r1, r2, r3, r4, r5, r6, r7, r8, r9⟩, ⟨g0, g1, g2, g3, g4, g5, g6, g7, g8, g9⟩, _⟩ := R2.out.ten
  have R3 := hide (set10_blk R2.out (.string n) (.int .i64 t) (.int .i64 c) (.bool nx) (.string sn) (.int .i64 st) (.int .i64 sc) (.slice av D.length cv) (.int .i64 ttl) (.int .i64 u))
  have K3 := hide (set10_keeps K2.out hle.out (.string n) (.int .i64 t) (.int .i64 c) (.bool nx) (.string sn) (.int .i64 st) (.int .i64 sc) (.slice av D.length cv) (.int .i64 ttl) (.int .i64 u))
  have O3 := hide ((O1.out.set10 hGW (.string n) (.int .i64 t) (.int .i64 c) (.bool nx) (.string sn) (.int .i64 st) (.int .i64 sc) (.slice av D.length cv) (.int .i64 ttl) (.int .i64 u)).le K.out.size)
  unfold set10 at R3 K3 O3
  clear A2 R2 K2 O1
  go_wp2_with fail
  generalize (((((((((W2.setCell ⟨G, 0, none⟩ (.string n)).setCell ⟨G, 1, none⟩ (.int .i64 t)).setCell ⟨G, 2, none⟩ (.int .i64 c)).setCell ⟨G, 3, none⟩ (.bool nx)).setCell ⟨G, 4, none⟩ (.string sn)).setCell ⟨G, 5, none⟩ (.int .i64 st)).setCell ⟨G, 6, none⟩ (.int .i64 sc)).setCell ⟨G, 7, none⟩ (.slice av D.length cv)).setCell ⟨G, 8, none⟩ (.int .i64 ttl)).setCell ⟨G, 9, none⟩ (.int .i64 u) = W9 at *
  obtain ⟨⟨s0, s1, s2, s3, s4, s5, s6, s7, s8, s9⟩, _, _⟩ := R3.out.ten
  exact bodyPost_ret (v := .agg #[.string n, .int .i64 t, .int .i64 c, .bool nx, .string sn, .int .i64 st, .int .i64 sc, .slice av D.length cv, .int .i64 ttl, .int .i64 u]) (by simp [results, Try.results44, go_sem, s0, s1, s2, s3, s4, s5, s6, s7, s8, s9]) rfl (HE.out _ _ O3.out K3.out)

theorem lawQ15 : Go.Maps.Keyed Try.prog 32 := Go.Maps.Keyed.of_law (Go.deep_law_laid (show laidOutB Try.prog = true by kernel_rfl) (m := 8) (by decide) (of_decide_eq_true (by kernel_rfl)) (by kernel_rfl) (by kernel_rfl))
theorem zeroNi (w : World) : (zeroValue 48).run Try.prog w = .ok (niV noNi (.slice none 0 0)) w := by kernel_rfl
/-- What is told of a key. -/
def TellNOk (w' : World) (B : Nat) : Option Ni → Value → Prop
  | none, vi => vi = niV noNi (.slice none 0 0)
  | some i, vi => ∃ vd, vi = niV i vd ∧ OwnsR w' B 9 1 vd (i.soa.ds.map tv)
def LiveNEnd (w : World) (oi : Option Ni) (e : Ending) (w' : World) : Prop := ∃ vi, e = .returned (.tuple #[vi, .bool oi.isSome]) ∧ TellNOk w' w.heap.size oi vi ∧ Keeps w w'

set_option maxHeartbeats 8000000 in
set_option maxRecDepth 100000 in
theorem liveN_nil (now : Int) (q : Qn) (w : World) :
    Calls Try.prog 46 #[.pointer none, .int .i64 now, .agg #[.string q.n, .int .i64 q.t, .int .i64 q.c]] w fun e w' => LiveNEnd w none e w' := by
  have R := Blk.made (w.alloc (.cells #[.string q.n, .int .i64 q.t, .int .i64 q.c] 32)) #[.string ⟨#[]⟩, .int .i64 0, .int .i64 0, .bool false, .string ⟨#[]⟩, .int .i64 0, .int .i64 0, .slice none 0 0, .int .i64 0, .int .i64 0] 48
  rw [size_allocG] at R
  replace R := hide R
  have K := hide (((Keeps.refl w).alloc (.cells #[.string q.n, .int .i64 q.t, .int .i64 q.c] 32)).alloc (.cells #[.string ⟨#[]⟩, .int .i64 0, .int .i64 0, .bool false, .string ⟨#[]⟩, .int .i64 0, .int .i64 0, .slice none 0 0, .int .i64 0, .int .i64 0] 48))
  go_enter Try.func46, Try.ntmps46
  go_upto_region 1 with fail
  generalize (w.alloc (.cells #[.string q.n, .int .i64 q.t, .int .i64 q.c] 32)).alloc (.cells #[.string ⟨#[]⟩, .int .i64 0, .int .i64 0, .bool false, .string ⟨#[]⟩, .int .i64 0, .int .i64 0, .slice none 0 0, .int .i64 0, .int .i64 0] 48) = W at *
  have hle : Hid (w.heap.size ≤ w.heap.size + 1) := Nat.le_succ _
  generalize w.heap.size + 1 = G at *
  obtain ⟨⟨r0, r1, r2, r3, r4, r5, r6, r7, r8, r9⟩, ⟨g0, g1, g2, g3, g4, g5, g6, g7, g8, g9⟩, _⟩ := R.out.ten
  have R3 := hide (set10_blk R.out (.string ⟨#[]⟩) (.int .i64 0) (.int .i64 0) (.bool false) (.string ⟨#[]⟩) (.int .i64 0) (.int .i64 0) (.slice none 0 0) (.int .i64 0) (.int .i64 0))
  have K3 := hide (set10_keeps K.out hle.out (.string ⟨#[]⟩) (.int .i64 0) (.int .i64 0) (.bool false) (.string ⟨#[]⟩) (.int .i64 0) (.int .i64 0) (.slice none 0 0) (.int .i64 0) (.int .i64 0))
  unfold set10 at R3 K3
  go_wp2_with fail
  refine (isMadeN_nil _).mono ?_
  rintro e w1 ⟨rfl, rfl⟩
  go_wp2_with fail
  generalize (((((((((w1.setCell ⟨G, 0, none⟩ (.string ⟨#[]⟩)).setCell ⟨G, 1, none⟩ (.int .i64 0)).setCell ⟨G, 2, none⟩ (.int .i64 0)).setCell ⟨G, 3, none⟩ (.bool false)).setCell ⟨G, 4, none⟩ (.string ⟨#[]⟩)).setCell ⟨G, 5, none⟩ (.int .i64 0)).setCell ⟨G, 6, none⟩ (.int .i64 0)).setCell ⟨G, 7, none⟩ (.slice none 0 0)).setCell ⟨G, 8, none⟩ (.int .i64 0)).setCell ⟨G, 9, none⟩ (.int .i64 0) = W9 at *
  obtain ⟨⟨s0, s1, s2, s3, s4, s5, s6, s7, s8, s9⟩, _, _⟩ := R3.out.ten
  exact bodyPost_ret (v := .tuple #[niV noNi (.slice none 0 0), .bool false]) (by simp [results, Try.results46, go_sem, s0, s1, s2, s3, s4, s5, s6, s7, s8, s9, niV, noNi, noSt, noQn]) rfl ⟨_, rfl, rfl, K3.out⟩

set_option maxHeartbeats 8000000 in
set_option maxRecDepth 100000 in
theorem liveN_any (p m : Nat) (s : Ngs) (now : Int) (q : Qn) (w : World) (h : NAt w p m s) (hq : QnFine q) :
    Calls Try.prog 46 #[.pointer (some ⟨p, 0, none⟩), .int .i64 now, .agg #[.string q.n, .int .i64 q.t, .int .i64 q.c]] w fun e w' => LiveNEnd w (Ng.liveN s now q) e w' := by
  have HM := hide (fun W (kk : Keeps w W) => isMadeN_any p m s W (h.keeps kk))
  obtain ⟨h1, h2, v, n, f, h3, h4, h5, h6, h7, h8⟩ := h
  have HL := hide (fun W (kk : Keeps w W) => (h6.keeps kk).look lawQ15 (t := 69) Try.underlying69 zeroNi q (keyQ q hq.1 hq.2.1 hq.2.2))
  obtain ⟨x, vd, hvi, hpk, hrd, av, nv, cv, rfl⟩ : ∃ x vd, (f q).getD (niV noNi (.slice none 0 0)) = niV x vd ∧ (Ng.liveN s now q = if Ag.live now x.u = true then some x else none) ∧ (Ag.live now x.u = true → ReadS w vd x.soa.ds ∧ x.soa.ds.length ≤ 1000000) ∧ (∃ av nv cv, vd = .slice av nv cv) := by
    have HF := h8 q
    cases hfd : Ng.find s.items q with
    | none =>
      rw [hfd] at HF
      refine ⟨noNi, .slice none 0 0, ?_, ?_, ?_, _, _, _, rfl⟩
      · rw [show f q = none from HF]; rfl
      · unfold Ng.liveN
        rw [hfd, show noNi.u = 0 from rfl, live_zero]
        rfl
      · intro hl
        rw [show noNi.u = 0 from rfl, live_zero] at hl
        cases hl
    | some i =>
      rw [hfd] at HF
      obtain ⟨vd, hv1, hv2, _⟩ := HF
      refine ⟨i, vd, by rw [hv1]; rfl, ?_, fun _ => ⟨hv2, (h2.fine i (Ng.find_key hfd).1).2.2.2.1⟩, by obtain ⟨a, c, e⟩ := hv2.len; exact ⟨_, _, _, e⟩⟩
      unfold Ng.liveN
      rw [hfd]
      cases hl : Ag.live now i.u <;> simp [Option.filter, hl]
  rw [hvi] at HL
  rw [hpk]
  clear hpk hvi
  have HE0 : Hid (Ag.live now x.u = false → ∀ W, Keeps w W → LiveNEnd w (if Ag.live now x.u = true then some x else none) (.returned (.tuple #[niV noNi (.slice none 0 0), .bool false])) W) := fun hl W k => by
    rw [hl]
    exact ⟨_, rfl, rfl, k⟩
  have HE1 : Hid (Ag.live now x.u = true → ∀ vd' W, OwnsR W w.heap.size 9 1 vd' (x.soa.ds.map tv) → Keeps w W → LiveNEnd w (if Ag.live now x.u = true then some x else none) (.returned (.tuple #[niV x vd', .bool true])) W) := fun hl vd' W o k => by
    rw [hl]
    exact ⟨_, rfl, ⟨vd', rfl, o⟩, k⟩
  generalize (if Ag.live now x.u = true then some x else none) = OI at *
  have S := hide h3
  obtain ⟨_, _, hplt⟩ := h3.four_cells
  have B := hide ((Blk.made w #[.string q.n, .int .i64 q.t, .int .i64 q.c] 32).alloc (.cells #[.string ⟨#[]⟩, .int .i64 0, .int .i64 0, .bool false, .string ⟨#[]⟩, .int .i64 0, .int .i64 0, .slice none 0 0, .int .i64 0, .int .i64 0] 48))
  have R := Blk.made (w.alloc (.cells #[.string q.n, .int .i64 q.t, .int .i64 q.c] 32)) #[.string ⟨#[]⟩, .int .i64 0, .int .i64 0, .bool false, .string ⟨#[]⟩, .int .i64 0, .int .i64 0, .slice none 0 0, .int .i64 0, .int .i64 0] 48
  rw [size_allocG] at R
  replace R := hide R
  have K := hide (((Keeps.refl w).alloc (.cells #[.string q.n, .int .i64 q.t, .int .i64 q.c] 32)).alloc (.cells #[.string ⟨#[]⟩, .int .i64 0, .int .i64 0, .bool false, .string ⟨#[]⟩, .int .i64 0, .int .i64 0, .slice none 0 0, .int .i64 0, .int .i64 0] 48))
  go_enter Try.func46, Try.ntmps46
  go_upto_region 1 with fail
  generalize (w.alloc (.cells #[.string q.n, .int .i64 q.t, .int .i64 q.c] 32)).alloc (.cells #[.string ⟨#[]⟩, .int .i64 0, .int .i64 0, .bool false, .string ⟨#[]⟩, .int .i64 0, .int .i64 0, .slice none 0 0, .int .i64 0, .int .i64 0] 48) = W at *
  have hle : Hid (w.heap.size ≤ w.heap.size + 1) := Nat.le_succ _
  have hle2 : Hid (w.heap.size ≤ w.heap.size) := Nat.le_refl _
  generalize w.heap.size + 1 = G at *
  generalize hF : w.heap.size = F at B ⊢
  clear hle2
  replace hF := hide hF
  go_wp2_with fail
  refine (HM.out _ K.out).mono ?_
  rintro e w1 ⟨rfl, rfl⟩
  go_upto_region 3 with fail
  obtain ⟨⟨_, m1, _, _⟩, _, _⟩ := (S.out.keeps K.out).four_cells
  obtain ⟨⟨b0, b1, b2⟩, _, hFl⟩ := B.out.three
  have l1 := HL.out _ K.out.drew
  have l2 := HL.out _ (K.out.alloc (.cells #[.string ⟨#[]⟩, .int .i64 0, .int .i64 0, .bool false, .string ⟨#[]⟩, .int .i64 0, .int .i64 0, .slice none 0 0, .int .i64 0, .int .i64 0] 48)).drew
  unfold qnV at l1 l2
  unfold niV at l1 l2
  have HOWN := hide (fun (hl : Ag.live now x.u = true) W (kk : Keeps w W) => ownN_any (.slice av nv cv) x W ((hrd hl).1.keeps kk) (hrd hl).2)
  unfold niV at HOWN
  go_region
  all_goals
    have I := hide (Blk.made w1 #[.string x.key.n, .int .i64 x.key.t, .int .i64 x.key.c, .bool x.nx, .string x.soa.key.n, .int .i64 x.soa.key.t, .int .i64 x.soa.key.c, .slice av nv cv, .int .i64 x.soa.ttl, .int .i64 x.u] 48).drew
    have R1 := hide (R.out.alloc (.cells #[.string x.key.n, .int .i64 x.key.t, .int .i64 x.key.c, .bool x.nx, .string x.soa.key.n, .int .i64 x.soa.key.t, .int .i64 x.soa.key.c, .slice av nv cv, .int .i64 x.soa.ttl, .int .i64 x.u] 48)).drew
    have K2 := hide (K.out.alloc (.cells #[.string x.key.n, .int .i64 x.key.t, .int .i64 x.key.c, .bool x.nx, .string x.soa.key.n, .int .i64 x.soa.key.t, .int .i64 x.soa.key.c, .slice av nv cv, .int .i64 x.soa.ttl, .int .i64 x.u] 48)).drew
    generalize (w1.alloc (.cells #[.string x.key.n, .int .i64 x.key.t, .int .i64 x.key.c, .bool x.nx, .string x.soa.key.n, .int .i64 x.soa.key.t, .int .i64 x.soa.key.c, .slice av nv cv, .int .i64 x.soa.ttl, .int .i64 x.u] 48)).drew = W2 at *
    generalize w1.heap.size = N at *
    clear m1 b0 b1 b2 hFl l1 l2 R K
    obtain ⟨⟨i0, i1, i2, i3, i4, i5, i6, i7, i8, i9⟩, _, _⟩ := I.out.ten
    go_wp2_with fail
    refine (ageLive_any _ _ _).mono ?_
    rintro e w2 ⟨rfl, rfl⟩
    cases hlv : Ag.live now x.u
    · obtain ⟨⟨r0, r1, r2, r3, r4, r5, r6, r7, r8, r9⟩, ⟨g0, g1, g2, g3, g4, g5, g6, g7, g8, g9⟩, _⟩ := R1.out.ten
      have R3 := hide (set10_blk R1.out (.string ⟨#[]⟩) (.int .i64 0) (.int .i64 0) (.bool false) (.string ⟨#[]⟩) (.int .i64 0) (.int .i64 0) (.slice none 0 0) (.int .i64 0) (.int .i64 0))
      have K3 := hide (set10_keeps K2.out hle.out (.string ⟨#[]⟩) (.int .i64 0) (.int .i64 0) (.bool false) (.string ⟨#[]⟩) (.int .i64 0) (.int .i64 0) (.slice none 0 0) (.int .i64 0) (.int .i64 0))
      unfold set10 at R3 K3
      clear R1 K2 I
      go_wp2_with fail
      generalize (((((((((w2.setCell ⟨G, 0, none⟩ (.string ⟨#[]⟩)).setCell ⟨G, 1, none⟩ (.int .i64 0)).setCell ⟨G, 2, none⟩ (.int .i64 0)).setCell ⟨G, 3, none⟩ (.bool false)).setCell ⟨G, 4, none⟩ (.string ⟨#[]⟩)).setCell ⟨G, 5, none⟩ (.int .i64 0)).setCell ⟨G, 6, none⟩ (.int .i64 0)).setCell ⟨G, 7, none⟩ (.slice none 0 0)).setCell ⟨G, 8, none⟩ (.int .i64 0)).setCell ⟨G, 9, none⟩ (.int .i64 0) = W9 at *
      obtain ⟨⟨s0, s1, s2, s3, s4, s5, s6, s7, s8, s9⟩, _, _⟩ := R3.out.ten
      exact bodyPost_ret (v := .tuple #[niV noNi (.slice none 0 0), .bool false]) (by simp [results, Try.results46, go_sem, s0, s1, s2, s3, s4, s5, s6, s7, s8, s9, niV, noNi, noSt, noQn]) rfl (HE0.out hlv _ K3.out)
    · go_wp2_with fail
      refine (HOWN.out hlv _ K2.out).mono ?_
      intro e w3 hE
      obtain ⟨vo, rfl, oo, k3⟩ := hE
      obtain ⟨ao, co, rfl⟩ := oo.form
      have R2 := hide (R1.out.keeps k3)
      have K3 := hide (K2.out.trans k3)
      have hGlt := R1.out.lt
      obtain ⟨⟨r0, r1, r2, r3, r4, r5, r6, r7, r8, r9⟩, ⟨g0, g1, g2, g3, g4, g5, g6, g7, g8, g9⟩, _⟩ := R2.out.ten
      unfold niV
      generalize hDD : (x.soa.ds.map tv) = D at *
      have R4 := hide (set10_blk R2.out (.string x.key.n) (.int .i64 x.key.t) (.int .i64 x.key.c) (.bool x.nx) (.string x.soa.key.n) (.int .i64 x.soa.key.t) (.int .i64 x.soa.key.c) (.slice ao D.length co) (.int .i64 x.soa.ttl) (.int .i64 x.u))
      have K4 := hide (set10_keeps K3.out hle.out (.string x.key.n) (.int .i64 x.key.t) (.int .i64 x.key.c) (.bool x.nx) (.string x.soa.key.n) (.int .i64 x.soa.key.t) (.int .i64 x.soa.key.c) (.slice ao D.length co) (.int .i64 x.soa.ttl) (.int .i64 x.u))
      have O4 := hide ((oo.set10 hGlt (.string x.key.n) (.int .i64 x.key.t) (.int .i64 x.key.c) (.bool x.nx) (.string x.soa.key.n) (.int .i64 x.soa.key.t) (.int .i64 x.soa.key.c) (.slice ao D.length co) (.int .i64 x.soa.ttl) (.int .i64 x.u)).le K2.out.size)
      unfold set10 at R4 K4 O4
      clear R1 R2 K2 K3 I oo k3
      go_wp2_with fail
      generalize (((((((((w3.setCell ⟨G, 0, none⟩ (.string x.key.n)).setCell ⟨G, 1, none⟩ (.int .i64 x.key.t)).setCell ⟨G, 2, none⟩ (.int .i64 x.key.c)).setCell ⟨G, 3, none⟩ (.bool x.nx)).setCell ⟨G, 4, none⟩ (.string x.soa.key.n)).setCell ⟨G, 5, none⟩ (.int .i64 x.soa.key.t)).setCell ⟨G, 6, none⟩ (.int .i64 x.soa.key.c)).setCell ⟨G, 7, none⟩ (.slice ao D.length co)).setCell ⟨G, 8, none⟩ (.int .i64 x.soa.ttl)).setCell ⟨G, 9, none⟩ (.int .i64 x.u) = W9 at *
      obtain ⟨⟨s0, s1, s2, s3, s4, s5, s6, s7, s8, s9⟩, _, _⟩ := R4.out.ten
      subst hDD
      exact bodyPost_ret (v := .tuple #[niV x (.slice ao (x.soa.ds.map tv).length co), .bool true]) (by simp [results, Try.results46, go_sem, s0, s1, s2, s3, s4, s5, s6, s7, s8, s9, niV]) rfl (HE1.out hlv _ _ O4.out K4.out)
end Go.Proofs.Ytedcjkfiljjpiaa
