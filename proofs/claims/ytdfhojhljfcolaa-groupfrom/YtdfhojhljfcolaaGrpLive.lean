/- The examples that the statements of layer 10 ask for answer true. No condition. -/
import Derived.Test.YtdfhojhljfcolaaGrpL
namespace Go.Proofs.Ytdfhojhljfcolaa
open Go.RowKit

theorem two_sets {w : World} {v : Value} {x y : St} (h : SetsAt w v [x, y]) : ∃ g off cap vx vy, v = .slice (some ⟨g, off, none⟩) 2 cap ∧ ReadS w vx x.ds ∧ ReadS w vy y.ds ∧
    (w.cell? ⟨g, off, none⟩ = some (.string x.key.n) ∧ w.cell? ⟨g, off + 1, none⟩ = some (.int .i64 x.key.t) ∧ w.cell? ⟨g, off + 2, none⟩ = some (.int .i64 x.key.c) ∧ w.cell? ⟨g, off + 3, none⟩ = some vx ∧ w.cell? ⟨g, off + 4, none⟩ = some (.int .i64 x.ttl)) ∧
    (w.cell? ⟨g, off + 5, none⟩ = some (.string y.key.n) ∧ w.cell? ⟨g, off + 5 + 1, none⟩ = some (.int .i64 y.key.t) ∧ w.cell? ⟨g, off + 5 + 2, none⟩ = some (.int .i64 y.key.c) ∧ w.cell? ⟨g, off + 5 + 3, none⟩ = some vy ∧ w.cell? ⟨g, off + 5 + 4, none⟩ = some (.int .i64 y.ttl)) := by
  obtain ⟨ss, h1, h2, h3⟩ := h
  match ss, h1 with
  | [(a, va), (b, vb)], h1 =>
    simp only [List.map_cons, List.map_nil, List.cons.injEq, and_true] at h1
    obtain ⟨rfl, rfl⟩ := h1
    obtain ⟨ad, cap, rfl, _, h5⟩ := h2
    obtain ⟨g, off, rfl, _, hc⟩ := h5 (by simp)
    refine ⟨g, off, cap, va, vb, rfl, h3 (a, va) (by simp), h3 (b, vb) (by simp), ⟨?_, ?_, ?_, ?_, ?_⟩, ?_, ?_, ?_, ?_, ?_⟩
    · exact hc 0 (by simp) 0 (by decide)
    · exact hc 0 (by simp) 1 (by decide)
    · exact hc 0 (by simp) 2 (by decide)
    · exact hc 0 (by simp) 3 (by decide)
    · exact hc 0 (by simp) 4 (by decide)
    · exact hc 1 (by simp) 0 (by decide)
    · exact hc 1 (by simp) 1 (by decide)
    · exact hc 1 (by simp) 2 (by decide)
    · exact hc 1 (by simp) 3 (by decide)
    · exact hc 1 (by simp) 4 (by decide)

theorem blk_rows {w : World} {G : Nat} {cs : Array Value} {ty : TypeId} (h : Blk w G cs ty) {c n : Nat} (rows : List (List Value)) (hl : ∀ r ∈ rows, r.length = c) (hf : cs.toList = rows.flatten) (hn : rows.length = n) : ReadRow w (.slice (some ⟨G, 0, none⟩) n n) c rows := by
  subst hn
  refine ⟨_, rows.length, rfl, Nat.le_refl _, fun _ => ⟨G, 0, rfl, h.lt, fun i hi j hj => ?_⟩⟩
  have e : (⟨G, 0 + i * c + j, none⟩ : Addr) = ⟨G, i * c + j, none⟩ := by rw [Nat.zero_add]
  rw [e, h.cell (i * c + j), ← flat_get rows hl i j hi hj, ← hf]
  simp
theorem two_recs {w : World} {v : Value} {x y : Rec} (h : ReadRow w v 5 ([x, y].map recL8)) : ∃ g off cap, v = .slice (some ⟨g, off, none⟩) 2 cap ∧
    (w.cell? ⟨g, off, none⟩ = some (.string x.n) ∧ w.cell? ⟨g, off + 1, none⟩ = some (.int .i64 x.t) ∧ w.cell? ⟨g, off + 2, none⟩ = some (.int .i64 x.c) ∧ w.cell? ⟨g, off + 3, none⟩ = some (.int .i64 x.l) ∧ w.cell? ⟨g, off + 4, none⟩ = some (.string x.d)) ∧ w.cell? ⟨g, off + 5 + 4, none⟩ = some (.string y.d) := by
  obtain ⟨ad, cap, rfl, _, h5⟩ := h
  obtain ⟨g, off, rfl, _, hc⟩ := h5 (by simp)
  exact ⟨g, off, cap, rfl, ⟨hc 0 (by simp) 0 (by decide), hc 0 (by simp) 1 (by decide), hc 0 (by simp) 2 (by decide), hc 0 (by simp) 3 (by decide), hc 0 (by simp) 4 (by decide)⟩, hc 1 (by simp) 4 (by decide)⟩
theorem l10_recs : ∀ x ∈ [gA, gC, gB, gA, gZ], x.n.size ≤ maxLen ∧ x.d.size ≤ maxLen := by unfold maxLen; decide

set_option maxHeartbeats 8000000 in
set_option maxRecDepth 100000 in
theorem live10_any (w : World) : Calls Try.prog 10 #[] w fun e w' => e = .returned (.bool true) ∧ Keeps w w' := by
  have K := hide (((((Keeps.refl w).alloc (.cells #[.string ⟨#[1, 65, 0]⟩, .int .i64 1, .int .i64 1, .int .i64 9, .string ⟨#[49, 49, 49, 49]⟩] 29)).alloc (.cells #[.string ⟨#[1, 97, 0]⟩, .int .i64 1, .int .i64 1, .int .i64 5, .string ⟨#[50, 50, 50, 50]⟩] 29)).alloc (.cells #[.string ⟨#[1, 97, 0]⟩, .int .i64 2, .int .i64 1, .int .i64 5, .string ⟨#[1, 88, 0]⟩] 29)).alloc (.cells #[.string ⟨#[1, 65, 0]⟩, .int .i64 1, .int .i64 1, .int .i64 9, .string ⟨#[49, 49, 49, 49]⟩, .string ⟨#[1, 97, 0]⟩, .int .i64 2, .int .i64 1, .int .i64 5, .string ⟨#[1, 88, 0]⟩, .string ⟨#[1, 97, 0]⟩, .int .i64 1, .int .i64 1, .int .i64 5, .string ⟨#[50, 50, 50, 50]⟩, .string ⟨#[1, 65, 0]⟩, .int .i64 1, .int .i64 1, .int .i64 9, .string ⟨#[49, 49, 49, 49]⟩, .string ⟨#[0]⟩, .int .i64 41, .int .i64 0, .int .i64 0, .string ⟨#[]⟩] 29))
  have BA := hide ((((Blk.made w #[.string ⟨#[1, 65, 0]⟩, .int .i64 1, .int .i64 1, .int .i64 9, .string ⟨#[49, 49, 49, 49]⟩] 29).alloc (.cells #[.string ⟨#[1, 97, 0]⟩, .int .i64 1, .int .i64 1, .int .i64 5, .string ⟨#[50, 50, 50, 50]⟩] 29)).alloc (.cells #[.string ⟨#[1, 97, 0]⟩, .int .i64 2, .int .i64 1, .int .i64 5, .string ⟨#[1, 88, 0]⟩] 29)).alloc (.cells #[.string ⟨#[1, 65, 0]⟩, .int .i64 1, .int .i64 1, .int .i64 9, .string ⟨#[49, 49, 49, 49]⟩, .string ⟨#[1, 97, 0]⟩, .int .i64 2, .int .i64 1, .int .i64 5, .string ⟨#[1, 88, 0]⟩, .string ⟨#[1, 97, 0]⟩, .int .i64 1, .int .i64 1, .int .i64 5, .string ⟨#[50, 50, 50, 50]⟩, .string ⟨#[1, 65, 0]⟩, .int .i64 1, .int .i64 1, .int .i64 9, .string ⟨#[49, 49, 49, 49]⟩, .string ⟨#[0]⟩, .int .i64 41, .int .i64 0, .int .i64 0, .string ⟨#[]⟩] 29))
  have BR := Blk.made (((w.alloc (.cells #[.string ⟨#[1, 65, 0]⟩, .int .i64 1, .int .i64 1, .int .i64 9, .string ⟨#[49, 49, 49, 49]⟩] 29)).alloc (.cells #[.string ⟨#[1, 97, 0]⟩, .int .i64 1, .int .i64 1, .int .i64 5, .string ⟨#[50, 50, 50, 50]⟩] 29)).alloc (.cells #[.string ⟨#[1, 97, 0]⟩, .int .i64 2, .int .i64 1, .int .i64 5, .string ⟨#[1, 88, 0]⟩] 29)) #[.string ⟨#[1, 65, 0]⟩, .int .i64 1, .int .i64 1, .int .i64 9, .string ⟨#[49, 49, 49, 49]⟩, .string ⟨#[1, 97, 0]⟩, .int .i64 2, .int .i64 1, .int .i64 5, .string ⟨#[1, 88, 0]⟩, .string ⟨#[1, 97, 0]⟩, .int .i64 1, .int .i64 1, .int .i64 5, .string ⟨#[50, 50, 50, 50]⟩, .string ⟨#[1, 65, 0]⟩, .int .i64 1, .int .i64 1, .int .i64 9, .string ⟨#[49, 49, 49, 49]⟩, .string ⟨#[0]⟩, .int .i64 41, .int .i64 0, .int .i64 0, .string ⟨#[]⟩] 29
  rw [size_allocG, size_allocG, size_allocG] at BR
  replace BR := hide BR
  go_enter Try.func10, Try.ntmps10
  go_wp2_with fail
  generalize ((((w.alloc (.cells #[.string ⟨#[1, 65, 0]⟩, .int .i64 1, .int .i64 1, .int .i64 9, .string ⟨#[49, 49, 49, 49]⟩] 29)).alloc (.cells #[.string ⟨#[1, 97, 0]⟩, .int .i64 1, .int .i64 1, .int .i64 5, .string ⟨#[50, 50, 50, 50]⟩] 29)).alloc (.cells #[.string ⟨#[1, 97, 0]⟩, .int .i64 2, .int .i64 1, .int .i64 5, .string ⟨#[1, 88, 0]⟩] 29)).alloc (.cells #[.string ⟨#[1, 65, 0]⟩, .int .i64 1, .int .i64 1, .int .i64 9, .string ⟨#[49, 49, 49, 49]⟩, .string ⟨#[1, 97, 0]⟩, .int .i64 2, .int .i64 1, .int .i64 5, .string ⟨#[1, 88, 0]⟩, .string ⟨#[1, 97, 0]⟩, .int .i64 1, .int .i64 1, .int .i64 5, .string ⟨#[50, 50, 50, 50]⟩, .string ⟨#[1, 65, 0]⟩, .int .i64 1, .int .i64 1, .int .i64 9, .string ⟨#[49, 49, 49, 49]⟩, .string ⟨#[0]⟩, .int .i64 41, .int .i64 0, .int .i64 0, .string ⟨#[]⟩] 29)) = W0 at *
  generalize w.heap.size + 1 + 1 + 1 = GR at *
  have hrow : ReadRow W0 (.slice (some ⟨GR, 0, none⟩) 5 5) 5 ([gA, gC, gB, gA, gZ].map recL8) := blk_rows BR.out _ (by intro r hr; rw [List.mem_map] at hr; obtain ⟨x, _, rfl⟩ := hr; rfl) (by rfl) (by rfl)
  refine (From_any _ [gA, gC, gB, gA, gZ] _ hrow (by decide) l10_recs).mono ?_
  intro e w1 hE
  rw [g_from] at hE
  obtain ⟨v1, rfl, hS, k1⟩ := hE
  replace K := hide (K.out.trans k1)
  replace BA := hide (BA.out.keeps k1)
  clear k1 BR hrow
  obtain ⟨g, off, cap, vx, vy, rfl, rx, ry, ⟨c0, c1, c2, c3, c4⟩, ⟨d0, d1, d2, d3, d4⟩⟩ := two_sets hS
  obtain ⟨h1, p1, n1, rfl, _, _, _⟩ := rx.parts (by decide)
  obtain ⟨h2, p2, n2, rfl, _, ey, _⟩ := ry.parts (by decide)
  have ey0 := ey 0 (by decide)
  have hS1 : StAt w1 (.agg #[.string ⟨#[1, 97, 0]⟩, .int .i64 1, .int .i64 1, .slice (some ⟨h1, p1, none⟩) 2 n1, .int .i64 5]) gS1 := ⟨_, rfl, rx⟩
  have hS2 : StAt w1 (.agg #[.string ⟨#[1, 97, 0]⟩, .int .i64 2, .int .i64 1, .slice (some ⟨h2, p2, none⟩) 1 n2, .int .i64 5]) gS2 := ⟨_, rfl, ry⟩
  replace hS1 := hide hS1
  replace hS2 := hide hS2
  rw [Nat.add_zero] at ey0
  have HFl := hide (fun W (k : Keeps w1 W) => Flat_any _ gS1 3 3 W (hS1.out.keeps k) g_fine1 (by decide))
  rw [g_flat] at HFl
  generalize hoo : off + 5 = o5 at *
  simp only [gS1, gS2, gQ1, gQ2] at c0 c1 c2 c4 d0 d1 d2 d4
  have c3' : w1.cell? ⟨g, off + 3, none⟩ = some (.slice (some ⟨h1, p1, none⟩) 2 n1) := c3
  have d3' : w1.cell? ⟨g, o5 + 3, none⟩ = some (.slice (some ⟨h2, p2, none⟩) 1 n2) := d3
  have ey1 : w1.cell? ⟨h2, p2, none⟩ = some (.string ⟨#[1, 120, 0]⟩) := ey0
  clear c3 d3 ey0 ey hS
  generalize hAe : w.heap.size = A at *
  go_wp2_with fail
  refine (HFl.out _ (Keeps.refl _)).mono ?_
  intro e w2 hE
  obtain ⟨v2, rfl, hR, k1⟩ := hE
  obtain ⟨q, r, cap2, rfl, ⟨f0, f1, f2, f3, f4⟩, f9⟩ := two_recs hR
  simp only at f0 f1 f2 f3 f4 f9
  replace K := hide (K.out.trans k1)
  have gk1 : ∀ {p : Addr} {u : Value}, w1.cell? p = some u → w2.cell? p = some u := fun {p u} e => (Below.cell k1 (World.block_lt_of_cell? w1 _ e)).trans e
  have a0 := (BA.out.keeps k1).cell 0
  have a1 := (BA.out.keeps k1).cell 1
  have a2 := (BA.out.keeps k1).cell 2
  have a3 := (BA.out.keeps k1).cell 3
  have a4 := (BA.out.keeps k1).cell 4
  simp only [List.getElem?_toArray, List.getElem?_cons_zero, List.getElem?_cons_succ] at a0 a1 a2 a3 a4
  generalize hoo2 : r + 5 = r5 at *
  have TT : w2.cell? ⟨g, off, none⟩ = some (.string ⟨#[1, 97, 0]⟩) ∧ w2.cell? ⟨g, off + 1, none⟩ = some (.int .i64 1) ∧ w2.cell? ⟨g, off + 2, none⟩ = some (.int .i64 1) ∧ w2.cell? ⟨g, off + 3, none⟩ = some (.slice (some ⟨h1, p1, none⟩) 2 n1) ∧ w2.cell? ⟨g, off + 4, none⟩ = some (.int .i64 5) ∧ w2.cell? ⟨g, o5, none⟩ = some (.string ⟨#[1, 97, 0]⟩) ∧ w2.cell? ⟨g, o5 + 1, none⟩ = some (.int .i64 2) ∧ w2.cell? ⟨g, o5 + 2, none⟩ = some (.int .i64 1) ∧ w2.cell? ⟨g, o5 + 3, none⟩ = some (.slice (some ⟨h2, p2, none⟩) 1 n2) ∧ w2.cell? ⟨g, o5 + 4, none⟩ = some (.int .i64 5) ∧ w2.cell? ⟨h2, p2, none⟩ = some (.string ⟨#[1, 120, 0]⟩) ∧ w2.cell? ⟨A, 0, none⟩ = some (.string ⟨#[1, 65, 0]⟩) ∧ w2.cell? ⟨A, 1, none⟩ = some (.int .i64 1) ∧ w2.cell? ⟨A, 2, none⟩ = some (.int .i64 1) ∧ w2.cell? ⟨A, 3, none⟩ = some (.int .i64 9) ∧ w2.cell? ⟨A, 4, none⟩ = some (.string ⟨#[49, 49, 49, 49]⟩) ∧ w2.cell? ⟨q, r, none⟩ = some (.string ⟨#[1, 97, 0]⟩) ∧ w2.cell? ⟨q, r + 1, none⟩ = some (.int .i64 1) ∧ w2.cell? ⟨q, r + 2, none⟩ = some (.int .i64 1) ∧ w2.cell? ⟨q, r + 3, none⟩ = some (.int .i64 3) ∧ w2.cell? ⟨q, r + 4, none⟩ = some (.string ⟨#[50, 50, 50, 50]⟩) ∧ w2.cell? ⟨q, r5 + 4, none⟩ = some (.string ⟨#[49, 49, 49, 49]⟩) := ⟨gk1 c0, gk1 c1, gk1 c2, gk1 c3', gk1 c4, gk1 d0, gk1 d1, gk1 d2, gk1 d3', gk1 d4, gk1 ey1, a0, a1, a2, a3, a4, f0, f1, f2, f3, f4, f9⟩
  have HT : Hid (∀ w', Keeps w2.drew w' → w'.cell? ⟨g, off, none⟩ = some (.string ⟨#[1, 97, 0]⟩) ∧ w'.cell? ⟨g, off + 1, none⟩ = some (.int .i64 1) ∧ w'.cell? ⟨g, off + 2, none⟩ = some (.int .i64 1) ∧ w'.cell? ⟨g, off + 3, none⟩ = some (.slice (some ⟨h1, p1, none⟩) 2 n1) ∧ w'.cell? ⟨g, off + 4, none⟩ = some (.int .i64 5) ∧ w'.cell? ⟨g, o5, none⟩ = some (.string ⟨#[1, 97, 0]⟩) ∧ w'.cell? ⟨g, o5 + 1, none⟩ = some (.int .i64 2) ∧ w'.cell? ⟨g, o5 + 2, none⟩ = some (.int .i64 1) ∧ w'.cell? ⟨g, o5 + 3, none⟩ = some (.slice (some ⟨h2, p2, none⟩) 1 n2) ∧ w'.cell? ⟨g, o5 + 4, none⟩ = some (.int .i64 5) ∧ w'.cell? ⟨h2, p2, none⟩ = some (.string ⟨#[1, 120, 0]⟩) ∧ w'.cell? ⟨A, 0, none⟩ = some (.string ⟨#[1, 65, 0]⟩) ∧ w'.cell? ⟨A, 1, none⟩ = some (.int .i64 1) ∧ w'.cell? ⟨A, 2, none⟩ = some (.int .i64 1) ∧ w'.cell? ⟨A, 3, none⟩ = some (.int .i64 9) ∧ w'.cell? ⟨A, 4, none⟩ = some (.string ⟨#[49, 49, 49, 49]⟩) ∧ w'.cell? ⟨q, r, none⟩ = some (.string ⟨#[1, 97, 0]⟩) ∧ w'.cell? ⟨q, r + 1, none⟩ = some (.int .i64 1) ∧ w'.cell? ⟨q, r + 2, none⟩ = some (.int .i64 1) ∧ w'.cell? ⟨q, r + 3, none⟩ = some (.int .i64 3) ∧ w'.cell? ⟨q, r + 4, none⟩ = some (.string ⟨#[50, 50, 50, 50]⟩) ∧ w'.cell? ⟨q, r5 + 4, none⟩ = some (.string ⟨#[49, 49, 49, 49]⟩)) := fun w' k => by
    obtain ⟨t0, t1, t2, t3, t4, t5, t6, t7, t8, t9, t10, t11, t12, t13, t14, t15, t16, t17, t18, t19, t20, t21⟩ := TT
    have gk : ∀ {p : Addr} {u : Value}, w2.cell? p = some u → w'.cell? p = some u := fun {p u} e => (Below.cell k (World.block_lt_of_cell? w2 _ e)).trans e
    exact ⟨gk t0, gk t1, gk t2, gk t3, gk t4, gk t5, gk t6, gk t7, gk t8, gk t9, gk t10, gk t11, gk t12, gk t13, gk t14, gk t15, gk t16, gk t17, gk t18, gk t19, gk t20, gk t21⟩
  have HC1 : Hid (∀ W, Keeps w2.drew W → Calls Try.prog 17 #[.agg #[.string ⟨#[1, 97, 0]⟩, .int .i64 1, .int .i64 1, .slice (some ⟨h1, p1, none⟩) 2 n1, .int .i64 5]] W fun e w' => e = .returned (.bool true) ∧ Keeps W w') := fun W k => by
    have h := GCheck_any _ gS1 W (hS1.out.keeps (k1.drew.trans k)) g_fine1
    rw [g_ok] at h
    exact h
  have HC0 : Hid (∀ W, Calls Try.prog 17 #[.agg #[.string ⟨#[]⟩, .int .i64 0, .int .i64 0, .slice none 0 0, .int .i64 0]] W fun e w' => e = .returned (.bool false) ∧ Keeps W w') := fun W => by
    have h := GCheck_any (.agg #[.string ⟨#[]⟩, .int .i64 0, .int .i64 0, .slice none 0 0, .int .i64 0]) noSt W ⟨_, rfl, ReadS.none⟩ g_fine0
    rw [g_no] at h
    exact h
  have HKy : Hid (∀ W, Calls Try.prog 11 #[.agg #[.string ⟨#[1, 65, 0]⟩, .int .i64 1, .int .i64 1, .int .i64 9, .string ⟨#[49, 49, 49, 49]⟩]] W fun e w' => e = .returned (.agg #[.string ⟨#[1, 97, 0]⟩, .int .i64 1, .int .i64 1]) ∧ Keeps W w') := fun W => by
    have h := Key_any gA W (by unfold maxLen; decide) (by unfold maxLen; decide)
    rw [g_key] at h
    exact h
  have HS1 : Hid (∀ W, Keeps w2.drew W → Calls Try.prog 22 #[.agg #[.string ⟨#[1, 97, 0]⟩, .int .i64 1, .int .i64 1, .slice (some ⟨h1, p1, none⟩) 2 n1, .int .i64 5], .agg #[.string ⟨#[1, 97, 0]⟩, .int .i64 1, .int .i64 1, .slice (some ⟨h1, p1, none⟩) 2 n1, .int .i64 5]] W fun e w' => e = .returned (.bool true) ∧ Keeps W w') := fun W k => by
    have h := GSame_any _ _ gS1 gS1 W (hS1.out.keeps (k1.drew.trans k)) (hS1.out.keeps (k1.drew.trans k)) g_fine1 g_fine1
    rw [decide_eq_true rfl] at h
    exact h
  have HS2 : Hid (∀ W, Keeps w2.drew W → Calls Try.prog 22 #[.agg #[.string ⟨#[1, 97, 0]⟩, .int .i64 1, .int .i64 1, .slice (some ⟨h1, p1, none⟩) 2 n1, .int .i64 5], .agg #[.string ⟨#[1, 97, 0]⟩, .int .i64 2, .int .i64 1, .slice (some ⟨h2, p2, none⟩) 1 n2, .int .i64 5]] W fun e w' => e = .returned (.bool false) ∧ Keeps W w') := fun W k => by
    have h := GSame_any _ _ gS1 gS2 W (hS1.out.keeps (k1.drew.trans k)) (hS2.out.keeps (k1.drew.trans k)) g_fine1 g_fine2
    rw [decide_eq_false (by decide +kernel)] at h
    exact h
  have HF2 : Hid (∀ W, Keeps w2.drew W → Calls Try.prog 20 #[.agg #[.string ⟨#[1, 97, 0]⟩, .int .i64 1, .int .i64 1, .slice (some ⟨h1, p1, none⟩) 2 n1, .int .i64 5], .int .i64 (-1), .int .i64 0] W fun e w' => RecsEnd W [] e w') := fun W k => by
    have h := Flat_any _ gS1 (-1) 0 W (hS1.out.keeps (k1.drew.trans k)) g_fine1 (by decide)
    rw [g_flat2] at h
    exact h
  have HF3 : Hid (∀ W, Keeps w2.drew W → Calls Try.prog 20 #[.agg #[.string ⟨#[1, 97, 0]⟩, .int .i64 1, .int .i64 1, .slice (some ⟨h1, p1, none⟩) 2 n1, .int .i64 5], .int .i64 0, .int .i64 (-1)] W fun e w' => RecsEnd W [] e w') := fun W k => by
    have h := Flat_any _ gS1 0 (-1) W (hS1.out.keeps (k1.drew.trans k)) g_fine1 (by decide)
    rw [g_flat3] at h
    exact h
  have HCk : Hid (∀ W v b, (v = Value.agg #[.string ⟨#[1, 97, 0]⟩, .int .i64 1, .int .i64 1, .slice (some ⟨h1, p1, none⟩) 2 n1, .int .i64 5] ∧ b = true ∨ v = Value.agg #[.string ⟨#[]⟩, .int .i64 0, .int .i64 0, .slice none 0 0, .int .i64 0] ∧ b = false) → Keeps w2.drew W → Calls Try.prog 17 #[v] W fun e w' => e = .returned (.bool b) ∧ Keeps W w') := fun W v b h k => by
    rcases h with ⟨rfl, rfl⟩ | ⟨rfl, rfl⟩
    · exact HC1.out W k
    · exact HC0.out W
  have HSk : Hid (∀ W v b, (v = Value.agg #[.string ⟨#[1, 97, 0]⟩, .int .i64 1, .int .i64 1, .slice (some ⟨h1, p1, none⟩) 2 n1, .int .i64 5] ∧ b = true ∨ v = Value.agg #[.string ⟨#[1, 97, 0]⟩, .int .i64 2, .int .i64 1, .slice (some ⟨h2, p2, none⟩) 1 n2, .int .i64 5] ∧ b = false) → Keeps w2.drew W → Calls Try.prog 22 #[.agg #[.string ⟨#[1, 97, 0]⟩, .int .i64 1, .int .i64 1, .slice (some ⟨h1, p1, none⟩) 2 n1, .int .i64 5], v] W fun e w' => e = .returned (.bool b) ∧ Keeps W w') := fun W v b h k => by
    rcases h with ⟨rfl, rfl⟩ | ⟨rfl, rfl⟩
    · exact HS1.out W k
    · exact HS2.out W k
  have HFk : Hid (∀ W (t u : Int), (t = -1 ∧ u = 0 ∨ t = 0 ∧ u = -1) → Keeps w2.drew W → Calls Try.prog 20 #[.agg #[.string ⟨#[1, 97, 0]⟩, .int .i64 1, .int .i64 1, .slice (some ⟨h1, p1, none⟩) 2 n1, .int .i64 5], .int .i64 t, .int .i64 u] W fun e w' => RecsEnd W [] e w') := fun W t u h k => by
    rcases h with ⟨rfl, rfl⟩ | ⟨rfl, rfl⟩
    · exact HF2.out W k
    · exact HF3.out W k
  clear HC1 HC0 HS1 HS2 HF2 HF3
  have T := HT.out _ (Keeps.refl _)
  have KK : Keeps w2.drew w2.drew := Keeps.refl _
  clear TT c0 c1 c2 c3' c4 d0 d1 d2 d3' d4 ey1 a0 a1 a2 a3 a4 f0 f1 f2 f3 f4 f9 gk1 BA hS1 hS2 HFl hR rx ry k1
  go_wp2_with fail
  simp only [List.append]
  go_region_held3 (fun w' => w'.cell? ⟨g, off, none⟩ = some (.string ⟨#[1, 97, 0]⟩) ∧ w'.cell? ⟨g, off + 1, none⟩ = some (.int .i64 1) ∧ w'.cell? ⟨g, off + 2, none⟩ = some (.int .i64 1) ∧ w'.cell? ⟨g, off + 3, none⟩ = some (.slice (some ⟨h1, p1, none⟩) 2 n1) ∧ w'.cell? ⟨g, off + 4, none⟩ = some (.int .i64 5) ∧ w'.cell? ⟨g, o5, none⟩ = some (.string ⟨#[1, 97, 0]⟩) ∧ w'.cell? ⟨g, o5 + 1, none⟩ = some (.int .i64 2) ∧ w'.cell? ⟨g, o5 + 2, none⟩ = some (.int .i64 1) ∧ w'.cell? ⟨g, o5 + 3, none⟩ = some (.slice (some ⟨h2, p2, none⟩) 1 n2) ∧ w'.cell? ⟨g, o5 + 4, none⟩ = some (.int .i64 5) ∧ w'.cell? ⟨h2, p2, none⟩ = some (.string ⟨#[1, 120, 0]⟩) ∧ w'.cell? ⟨A, 0, none⟩ = some (.string ⟨#[1, 65, 0]⟩) ∧ w'.cell? ⟨A, 1, none⟩ = some (.int .i64 1) ∧ w'.cell? ⟨A, 2, none⟩ = some (.int .i64 1) ∧ w'.cell? ⟨A, 3, none⟩ = some (.int .i64 9) ∧ w'.cell? ⟨A, 4, none⟩ = some (.string ⟨#[49, 49, 49, 49]⟩) ∧ w'.cell? ⟨q, r, none⟩ = some (.string ⟨#[1, 97, 0]⟩) ∧ w'.cell? ⟨q, r + 1, none⟩ = some (.int .i64 1) ∧ w'.cell? ⟨q, r + 2, none⟩ = some (.int .i64 1) ∧ w'.cell? ⟨q, r + 3, none⟩ = some (.int .i64 3) ∧ w'.cell? ⟨q, r + 4, none⟩ = some (.string ⟨#[50, 50, 50, 50]⟩) ∧ w'.cell? ⟨q, r5 + 4, none⟩ = some (.string ⟨#[49, 49, 49, 49]⟩)) (exact T) ((first | (go_at_call 17; refine (HCk.out _ _ _ (by first | exact .inl ⟨rfl, rfl⟩ | exact .inr ⟨rfl, rfl⟩) KK).mono ?_; rintro e w5 ⟨rfl, k5⟩; replace KK := Keeps.trans KK k5; replace T := HT.out _ KK; clear k5) | (go_at_call 11; refine (HKy.out _).mono ?_; rintro e w5 ⟨rfl, k5⟩; replace KK := Keeps.trans KK k5; replace T := HT.out _ KK; clear k5) | (go_at_call 22; refine (HSk.out _ _ _ (by first | exact .inl ⟨rfl, rfl⟩ | exact .inr ⟨rfl, rfl⟩) KK).mono ?_; rintro e w5 ⟨rfl, k5⟩; replace KK := Keeps.trans KK k5; replace T := HT.out _ KK; clear k5) | (go_at_call 20; refine (HFk.out _ _ _ (by first | exact .inl ⟨rfl, rfl⟩ | exact .inr ⟨rfl, rfl⟩) KK).mono ?_; intro e w5 hE5; obtain ⟨v5, rfl, r5', k5⟩ := hE5; obtain ⟨z5, y5, rfl⟩ := r5'.len; replace KK := Keeps.trans KK k5; replace T := HT.out _ KK; clear k5 r5')))
  have KF := hide (K.out.drew.trans KK)
  go_wp2
  go_ret
  exact ⟨rfl, KF.out⟩
end Go.Proofs.Ytdfhojhljfcolaa
