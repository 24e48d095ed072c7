/- Package group's small functions: one, Key; the document's Key. No condition but lengths. -/
import Derived.Test.YtdfhojhljfcolaaGrp
import Derived.Test.YtdfhojhljfcolaaMsgW7
import Derived.Deep.RegionHeld3
import Derived.Deep.RegionWith
import Derived.Deep.DeepCutAuto
namespace Go.Proofs.Ytdfhojhljfcolaa
open Go.RowKit

theorem one_any (q : Qn) (ttl : Int) (d : ByteArray) (w : World) :
    Calls Try.prog 32 #[qnV q, .int .i64 ttl, .string d] w fun e w' => e = .returned (recV ⟨q.n, q.t, q.c, ttl, d⟩) ∧ Keeps w w' := by
  obtain ⟨n, t, c⟩ := q
  unfold qnV recV
  have K := hide (((Keeps.refl w).alloc (.cells #[.string n, .int .i64 t, .int .i64 c] 26)).alloc (.cells #[.string n, .int .i64 t, .int .i64 c, .int .i64 ttl, .string d] 29))
  go_enter Try.func32, Try.ntmps32
  go_wp2
  exact bodyPost_ret (v := .agg #[.string n, .int .i64 t, .int .i64 c, .int .i64 ttl, .string d]) (by simp [results, Try.results32, go_sem]) rfl ⟨rfl, K.out⟩

theorem size_allocG (w : World) (o : Obj) : (w.alloc o).heap.size = w.heap.size + 1 := by simp
theorem Keeps.three {w W : World} (K : Keeps w W) {G : Nat} (hle : w.heap.size ≤ G) (a b c : Value) :
    Keeps w (((W.setCell ⟨G, 0, none⟩ a).setCell ⟨G, 1, none⟩ b).setCell ⟨G, 2, none⟩ c) :=
  Below.setCell (Below.setCell (Below.setCell K hle _) hle _) hle _

theorem Blk.five_cells {w : World} {G : Nat} {p q r s t : Value} {ty : TypeId} (h : Blk w G #[p, q, r, s, t] ty) :
    w.cell? ⟨G, 0, none⟩ = some p ∧ w.cell? ⟨G, 1, none⟩ = some q ∧ w.cell? ⟨G, 2, none⟩ = some r ∧ w.cell? ⟨G, 3, none⟩ = some s ∧ w.cell? ⟨G, 4, none⟩ = some t ∧ G < w.heap.size :=
  ⟨h.cell 0, h.cell 1, h.cell 2, h.cell 3, h.cell 4, h.lt⟩

set_option maxHeartbeats 2000000 in
set_option maxRecDepth 100000 in
theorem Key_any (r : Rec) (w : World) (hn : r.n.size ≤ maxLen) (hd : r.d.size ≤ maxLen) :
    Calls Try.prog 11 #[recV r] w fun e w' => e = .returned (qnV (keyM r)) ∧ Keeps w w' := by
  have HC := hide (fun W => rcheck_any r W hn hd)
  have HL := hide (fun W => low_any r.n W hn)
  have HK := hide (show keyM r = if recOk r then ⟨lowS r.n, r.t, r.c⟩ else noQn from rfl)
  generalize keyM r = R at *
  generalize recOk r = ok at *
  obtain ⟨n, t, c, l, d⟩ := r
  simp only at HL HK
  generalize lowS n = ln at *
  simp only [recV] at HC ⊢
  have B := hide ((Blk.made w #[.string n, .int .i64 t, .int .i64 c, .int .i64 l, .string d] 29).alloc (.cells #[.string ⟨#[]⟩, .int .i64 0, .int .i64 0] 26))
  have B2 := Blk.made (w.alloc (.cells #[.string n, .int .i64 t, .int .i64 c, .int .i64 l, .string d] 29)) #[.string ⟨#[]⟩, .int .i64 0, .int .i64 0] 26
  rw [size_allocG] at B2
  replace B2 := hide B2
  have K := hide (((Keeps.refl w).alloc (.cells #[.string n, .int .i64 t, .int .i64 c, .int .i64 l, .string d] 29)).alloc (.cells #[.string ⟨#[]⟩, .int .i64 0, .int .i64 0] 26))
  go_enter Try.func11, Try.ntmps11
  go_upto_region 1 with fail
  generalize (w.alloc (.cells #[.string n, .int .i64 t, .int .i64 c, .int .i64 l, .string d] 29)).alloc (.cells #[.string ⟨#[]⟩, .int .i64 0, .int .i64 0] 26) = W at *
  have hle : w.heap.size ≤ w.heap.size + 1 := Nat.le_succ _
  have hlt : w.heap.size < w.heap.size + 1 := Nat.lt_succ_self _
  generalize w.heap.size + 1 = G2 at *
  obtain ⟨b0, b1, b2, b3, b4, _⟩ := B.out.five_cells
  go_wp2_with fail
  refine (HC.out _).mono ?_
  rintro e w1 ⟨rfl, k1⟩
  replace B := hide (B.out.keeps k1)
  replace B2 := hide (B2.out.keeps k1)
  replace K := hide (K.out.trans k1)
  clear k1 b0 b1 b2 b3 b4 HC
  cases ok
  · obtain ⟨⟨c0, c1, c2⟩, ⟨f0, f1, f2⟩, glt⟩ := B2.out.three
    have HX := hide (fun a b c => Keeps.three K.out hle a b c)
    clear B B2 K
    go_wp2_with fail
    exact bodyPost_ret (v := .agg #[.string ⟨#[]⟩, .int .i64 0, .int .i64 0]) (by simp [results, Try.results11, go_sem, c0, c1, c2]) rfl ⟨by rw [HK.out]; rfl, HX.out _ _ _⟩
  · have T : w1.drew.cell? ⟨w.heap.size, 0, none⟩ = some (.string n) ∧ w1.drew.cell? ⟨w.heap.size, 1, none⟩ = some (.int .i64 t) ∧ w1.drew.cell? ⟨w.heap.size, 2, none⟩ = some (.int .i64 c) := ⟨B.out.cell 0, B.out.cell 1, B.out.cell 2⟩
    have HT : Hid (∀ w', Keeps w1.drew w' → w'.cell? ⟨w.heap.size, 0, none⟩ = some (.string n) ∧ w'.cell? ⟨w.heap.size, 1, none⟩ = some (.int .i64 t) ∧ w'.cell? ⟨w.heap.size, 2, none⟩ = some (.int .i64 c)) := fun w' k => by
      have h := B.out.drew.keeps k
      exact ⟨h.cell 0, h.cell 1, h.cell 2⟩
    have hne2 : G2 ≠ w.heap.size := by omega
    have HX3 : Hid (∀ w', Keeps w1.drew w' → ∀ x y z, (((w'.setCell ⟨G2, 0, none⟩ x).setCell ⟨G2, 1, none⟩ y).setCell ⟨G2, 2, none⟩ z).cell? ⟨w.heap.size, 0, none⟩ = some (.string n) ∧ (((w'.setCell ⟨G2, 0, none⟩ x).setCell ⟨G2, 1, none⟩ y).setCell ⟨G2, 2, none⟩ z).cell? ⟨w.heap.size, 1, none⟩ = some (.int .i64 t) ∧ (((w'.setCell ⟨G2, 0, none⟩ x).setCell ⟨G2, 1, none⟩ y).setCell ⟨G2, 2, none⟩ z).cell? ⟨w.heap.size, 2, none⟩ = some (.int .i64 c)) := fun w' k x y z => by
      have h := (((B.out.drew.keeps k).other (a := ⟨G2, 0, none⟩) hne2 x).other (a := ⟨G2, 1, none⟩) hne2 y).other (a := ⟨G2, 2, none⟩) hne2 z
      exact ⟨h.cell 0, h.cell 1, h.cell 2⟩
    have HB : Hid (∀ w', Keeps w1.drew w' → Blk w' G2 #[.string ⟨#[]⟩, .int .i64 0, .int .i64 0] 26) := fun w' k => B2.out.drew.keeps k
    have HKK : Hid (∀ w', Keeps w1.drew w' → ∀ a b c, Keeps w (((w'.setCell ⟨G2, 0, none⟩ a).setCell ⟨G2, 1, none⟩ b).setCell ⟨G2, 2, none⟩ c)) := fun w' k a b c => Keeps.three (K.out.drew.trans k) hle a b c
    have KK : Keeps w1.drew w1.drew := Keeps.refl _
    clear B B2 K
    generalize w.heap.size = G at *
    go_wp2_with fail
    go_region_held3 (fun w' => w'.cell? ⟨G, 0, none⟩ = some (.string n) ∧ w'.cell? ⟨G, 1, none⟩ = some (.int .i64 t) ∧ w'.cell? ⟨G, 2, none⟩ = some (.int .i64 c)) (first | exact T | exact HX3.out _ KK _ _ _) ((go_at_call 29; refine (HL.out _).mono ?_; rintro e w2 ⟨rfl, k2⟩; replace KK := Keeps.trans KK k2; replace T := HT.out _ KK; obtain ⟨⟨c0, c1, c2⟩, ⟨f0, f1, f2⟩, glt⟩ := (HB.out _ KK).three; clear k2))
    have HX := hide (HKK.out _ KK)
    clear T HT HX3 HB HKK
    go_wp2_with fail
    exact bodyPost_ret (v := .agg #[.string ln, .int .i64 t, .int .i64 c]) (by simp [results, Try.results11, go_sem, c0, c1, c2]) rfl ⟨by rw [HK.out]; rfl, HX.out _ _ _⟩

set_option maxHeartbeats 2000000 in
set_option maxRecDepth 100000 in
theorem refKey_any (r : Rec) (w : World) (hn : r.n.size ≤ maxLen) (hd : r.d.size ≤ maxLen) :
    Calls Try.prog 12 #[recV r] w fun e w' => e = .returned (qnV (keyM r)) ∧ Keeps w w' := by
  have HC := hide (fun W => refrcheck_any r W hn hd)
  have HL := hide (fun W => reflow_any r.n W hn)
  have HK := hide (show keyM r = if recOk r then ⟨lowS r.n, r.t, r.c⟩ else noQn from rfl)
  generalize keyM r = R at *
  generalize recOk r = ok at *
  obtain ⟨n, t, c, l, d⟩ := r
  simp only at HL HK
  generalize lowS n = ln at *
  simp only [recV] at HC ⊢
  have B := hide ((Blk.made w #[.string n, .int .i64 t, .int .i64 c, .int .i64 l, .string d] 29).alloc (.cells #[.string ⟨#[]⟩, .int .i64 0, .int .i64 0] 26))
  have B2 := Blk.made (w.alloc (.cells #[.string n, .int .i64 t, .int .i64 c, .int .i64 l, .string d] 29)) #[.string ⟨#[]⟩, .int .i64 0, .int .i64 0] 26
  rw [size_allocG] at B2
  replace B2 := hide B2
  have K := hide (((Keeps.refl w).alloc (.cells #[.string n, .int .i64 t, .int .i64 c, .int .i64 l, .string d] 29)).alloc (.cells #[.string ⟨#[]⟩, .int .i64 0, .int .i64 0] 26))
  go_enter Try.func12, Try.ntmps12
  go_upto_region 1 with fail
  generalize (w.alloc (.cells #[.string n, .int .i64 t, .int .i64 c, .int .i64 l, .string d] 29)).alloc (.cells #[.string ⟨#[]⟩, .int .i64 0, .int .i64 0] 26) = W at *
  have hle : w.heap.size ≤ w.heap.size + 1 := Nat.le_succ _
  have hlt : w.heap.size < w.heap.size + 1 := Nat.lt_succ_self _
  generalize w.heap.size + 1 = G2 at *
  obtain ⟨b0, b1, b2, b3, b4, _⟩ := B.out.five_cells
  go_wp2_with fail
  refine (HC.out _).mono ?_
  rintro e w1 ⟨rfl, k1⟩
  replace B := hide (B.out.keeps k1)
  replace B2 := hide (B2.out.keeps k1)
  replace K := hide (K.out.trans k1)
  clear k1 b0 b1 b2 b3 b4 HC
  cases ok
  · obtain ⟨⟨c0, c1, c2⟩, ⟨f0, f1, f2⟩, glt⟩ := B2.out.three
    have HX := hide (fun a b c => Keeps.three K.out hle a b c)
    clear B B2 K
    go_wp2_with fail
    exact bodyPost_ret (v := .agg #[.string ⟨#[]⟩, .int .i64 0, .int .i64 0]) (by simp [results, Try.results12, go_sem, c0, c1, c2]) rfl ⟨by rw [HK.out]; rfl, HX.out _ _ _⟩
  · have T : w1.drew.cell? ⟨w.heap.size, 0, none⟩ = some (.string n) ∧ w1.drew.cell? ⟨w.heap.size, 1, none⟩ = some (.int .i64 t) ∧ w1.drew.cell? ⟨w.heap.size, 2, none⟩ = some (.int .i64 c) := ⟨B.out.cell 0, B.out.cell 1, B.out.cell 2⟩
    have HT : Hid (∀ w', Keeps w1.drew w' → w'.cell? ⟨w.heap.size, 0, none⟩ = some (.string n) ∧ w'.cell? ⟨w.heap.size, 1, none⟩ = some (.int .i64 t) ∧ w'.cell? ⟨w.heap.size, 2, none⟩ = some (.int .i64 c)) := fun w' k => by
      have h := B.out.drew.keeps k
      exact ⟨h.cell 0, h.cell 1, h.cell 2⟩
    have hne2 : G2 ≠ w.heap.size := by omega
    have HX3 : Hid (∀ w', Keeps w1.drew w' → ∀ x y z, (((w'.setCell ⟨G2, 0, none⟩ x).setCell ⟨G2, 1, none⟩ y).setCell ⟨G2, 2, none⟩ z).cell? ⟨w.heap.size, 0, none⟩ = some (.string n) ∧ (((w'.setCell ⟨G2, 0, none⟩ x).setCell ⟨G2, 1, none⟩ y).setCell ⟨G2, 2, none⟩ z).cell? ⟨w.heap.size, 1, none⟩ = some (.int .i64 t) ∧ (((w'.setCell ⟨G2, 0, none⟩ x).setCell ⟨G2, 1, none⟩ y).setCell ⟨G2, 2, none⟩ z).cell? ⟨w.heap.size, 2, none⟩ = some (.int .i64 c)) := fun w' k x y z => by
      have h := (((B.out.drew.keeps k).other (a := ⟨G2, 0, none⟩) hne2 x).other (a := ⟨G2, 1, none⟩) hne2 y).other (a := ⟨G2, 2, none⟩) hne2 z
      exact ⟨h.cell 0, h.cell 1, h.cell 2⟩
    have HB : Hid (∀ w', Keeps w1.drew w' → Blk w' G2 #[.string ⟨#[]⟩, .int .i64 0, .int .i64 0] 26) := fun w' k => B2.out.drew.keeps k
    have HKK : Hid (∀ w', Keeps w1.drew w' → ∀ a b c, Keeps w (((w'.setCell ⟨G2, 0, none⟩ a).setCell ⟨G2, 1, none⟩ b).setCell ⟨G2, 2, none⟩ c)) := fun w' k a b c => Keeps.three (K.out.drew.trans k) hle a b c
    have KK : Keeps w1.drew w1.drew := Keeps.refl _
    clear B B2 K
    generalize w.heap.size = G at *
    go_wp2_with fail
    go_region_held3 (fun w' => w'.cell? ⟨G, 0, none⟩ = some (.string n) ∧ w'.cell? ⟨G, 1, none⟩ = some (.int .i64 t) ∧ w'.cell? ⟨G, 2, none⟩ = some (.int .i64 c)) (first | exact T | exact HX3.out _ KK _ _ _) ((go_at_call 26; refine (HL.out _).mono ?_; rintro e w2 ⟨rfl, k2⟩; replace KK := Keeps.trans KK k2; replace T := HT.out _ KK; obtain ⟨⟨c0, c1, c2⟩, ⟨f0, f1, f2⟩, glt⟩ := (HB.out _ KK).three; clear k2))
    have HX := hide (HKK.out _ KK)
    clear T HT HX3 HB HKK
    go_wp2_with fail
    exact bodyPost_ret (v := .agg #[.string ln, .int .i64 t, .int .i64 c]) (by simp [results, Try.results12, go_sem, c0, c1, c2]) rfl ⟨by rw [HK.out]; rfl, HX.out _ _ _⟩
end Go.Proofs.Ytdfhojhljfcolaa
