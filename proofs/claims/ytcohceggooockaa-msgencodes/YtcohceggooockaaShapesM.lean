/- How a message that comes in reads. No condition. -/
import Derived.Test.YtcohceggooockaaShapes
import Derived.Test.YtcohceggooockaaShapesR
import Derived.Test.YtcohceggooockaaMsgW6
import Derived.SizedLaws
namespace Go.Proofs.Ytcohceggooockaa
open Go.ChangeShapes Go.WideShapes Go.ChangeAt Go.RowKit

theorem open_row_cell {α : Type} {H : Type} {enc : TypeId × Value → H} {P : Program} {w : World} {base : Nat} {spare : TypeId → Bool} {held : Bool} {t e : TypeId} {v : Value} {fuel : Nat} {z : DataW H × List MemPlace}
    (f : α → List Value) (Q : α → Prop) (c : Nat) (hs : P.underlying t = some (.slice e)) (hc : P.cellsOf e = c) (hpos : 0 < c) (hfl : ∀ x, (f x).length = c)
    (hel : ∀ n cs y, cs.length = c → DataW.trod enc P w base spare held n e cs = some y → ∃ x, cs = f x ∧ Q x)
    (hf : DataW.trod enc P w base spare held fuel t [v] = some z) : ∃ xs : List α, ReadRow w v c (xs.map f) ∧ (∀ x ∈ xs, Q x) ∧ xs.length ≤ maxLen ∧ (xs = [] ∨ ∃ es sp, z.1 = .slice es sp ∧ es.length = xs.length) := by
  rcases DataW.trod_slice hs hf with ⟨hcs, _⟩ | ⟨x, n, cap, elems, rest, m, _, hcs, hz, hb, hl, hm, hlen, hell, _, _⟩
  · simp at hcs
    subst hcs
    exact ⟨[], ReadRow.nil, by simp, by simp, .inl rfl⟩
  · simp at hcs
    subst hcs
    have each : ∀ i : Fin n, ∃ y : α, w.cells? base (x.add (i.val * c)) c = some (f y) ∧ Q y := by
      intro i
      have := hell i.val i.isLt
      rw [List.getElem?_eq_getElem (by omega), Option.bind_eq_some_iff, hc] at this
      obtain ⟨cs, h1, h2⟩ := this
      obtain ⟨y, rfl, hq⟩ := hel _ _ _ (cells_get h1).1 h2
      exact ⟨y, h1, hq⟩
    refine ⟨List.ofFn fun i => Classical.choose (each i), ?_, ?_, by simp; omega, .inr ⟨_, _, by rw [hz], by simp [hlen]⟩⟩
    · refine ⟨some x, cap, by simp, by simpa using hl, fun hp => ?_⟩
      have hn : 0 < n := by simpa using hp
      have h0 := (cells_get (Classical.choose_spec (each ⟨0, hn⟩)).1).2 0 hpos
      have hlen0 := hfl (Classical.choose (each ⟨0, hn⟩))
      rw [List.getElem?_eq_getElem (by omega)] at h0
      obtain ⟨xb, xo, xs⟩ := x
      have hsp : xs = none := by
        cases xs with
        | none => rfl
        | some s =>
          simp only [World.cell?, Addr.add] at h0
          split at h0
          · simp at h0
          · cases h0
      subst hsp
      have hlt := World.block_lt_of_cell? w _ h0
      refine ⟨xb, xo, rfl, by rw [add_none, add_none] at hlt; exact hlt, fun i hi j hj => ?_⟩
      have hi' : i < n := by simpa using hi
      have := (cells_get (Classical.choose_spec (each ⟨i, hi'⟩)).1).2 j hj
      simp only [List.getElem_map, List.getElem_ofFn]
      rw [← this]
      rw [add_none, add_none]
    · intro y hy
      rw [List.mem_ofFn] at hy
      obtain ⟨i, rfl⟩ := hy
      exact (Classical.choose_spec (each i)).2

def QnFine (q : Qn) : Prop := q.n.size ≤ maxLen ∧ (-9223372036854775808 ≤ q.t ∧ q.t ≤ 9223372036854775807) ∧ (-9223372036854775808 ≤ q.c ∧ q.c ≤ 9223372036854775807)
theorem open_qn_cells {H : Type} {enc : TypeId × Value → H} {w : World} {base : Nat} {spare : TypeId → Bool} {held : Bool} {fuel : Nat} {c0 c1 c2 : Value} {x : DataW H × List MemPlace}
    (hf : DataW.trod enc Try.prog w base spare held fuel 42 [c0, c1, c2] = some x) : ∃ q : Qn, [c0, c1, c2] = qnL q ∧ QnFine q := by
  obtain ⟨xs, m, _, _, _, hl, hi⟩ := DataW.trod_struct Try.underlying42 hf
  have hc1 : Try.prog.cellsOf 9 = 1 := by kernel_rfl
  have hc2 : Try.prog.cellsOf 3 = 1 := by kernel_rfl
  have h0 := hi 0 _ rfl
  have h1 := hi 1 _ rfl
  have h2 := hi 2 _ rfl
  have hl' : xs.length = 3 := hl
  rw [List.getElem?_eq_getElem (by omega)] at h0 h1 h2
  simp [hc1, hc2] at h0 h1 h2
  obtain ⟨n, e0, _, w0⟩ := DataW.trod_string Try.underlying9 h0
  obtain ⟨t, e1, _, w1⟩ := DataW.trod_int Try.underlying3 h1
  obtain ⟨c, e2, _, w2⟩ := DataW.trod_int Try.underlying3 h2
  simp at e0 e1 e2
  subst e0 e1 e2
  exact ⟨⟨n, t, c⟩, rfl, w0, bounds_i64 w1, bounds_i64 w2⟩
theorem open_rr_cells {H : Type} {enc : TypeId × Value → H} {w : World} {base : Nat} {spare : TypeId → Bool} {held : Bool} (n : Nat) (cs : List Value) (y : DataW H × List MemPlace) (hl : cs.length = 5)
    (ht : DataW.trod enc Try.prog w base spare held n 44 cs = some y) : ∃ r : Rec, cs = recL8 r ∧ RecFine r := by
  match cs, hl with
  | [c0, c1, c2, c3, c4], _ =>
    obtain ⟨r, h1, h2⟩ := open_rec_cells ht
    refine ⟨r, ?_, h2⟩
    simp only [recV, Value.agg.injEq] at h1
    have := congrArg Array.toList h1
    simpa [recL8] using this
theorem sized_at {H : Type} {P : Program} {ts : List TypeId} {ds : List (DataW H)} (h : (DataW.weightsEach P ts ds).all (· ≤ reachBytes) = true) {j : Nat} {t : TypeId} {d : DataW H} (ht : ts[j]? = some t) (hd : ds[j]? = some d) : (d.weights P t).all (· ≤ reachBytes) = true :=
  List.all_eq_true.2 fun n hn => List.all_eq_true.1 h n (DataW.weights_mem_each ht hd n hn)
/-- All that a message which comes in keeps to. -/
def MsIn (m : Ms) : Prop := (-9223372036854775808 ≤ m.id ∧ m.id ≤ 9223372036854775807) ∧ (-9223372036854775808 ≤ m.bits ∧ m.bits ≤ 9223372036854775807) ∧ (∀ q ∈ m.qs, QnFine q) ∧ (∀ r ∈ m.an, RecFine r) ∧ (∀ r ∈ m.ns, RecFine r) ∧ (∀ r ∈ m.ar, RecFine r)
theorem arr6 {α : Type} {cs : Array α} (h : cs.size = 6) : ∃ c0 c1 c2 c3 c4 c5, cs = #[c0, c1, c2, c3, c4, c5] := by
  obtain ⟨l⟩ := cs
  match l, h with
  | [a, b, c, d, e, f], _ => exact ⟨a, b, c, d, e, f, rfl⟩
set_option maxRecDepth 100000 in
theorem open_ms {H : Type} {enc : TypeId × Value → H} {w : World} {base : Nat} {spare : TypeId → Bool} {held : Bool} {r : Reach} {b0 : Nat} {v : Value} {d : DataW H} {p : List MemPlace}
    (hv : Value.okWide Try.prog w r b0 26 v) (h : DataW.Trod enc Try.prog w base spare held 26 v d p)
    (hz : (d.weights Try.prog 26).all (· ≤ reachBytes) = true) :
    ∃ m : Ms, MsAt w v m ∧ MsFine m ∧ MsIn m ∧ (m.qs.length ≤ reachBytes ∧ m.an.length ≤ reachBytes ∧ m.ns.length ≤ reachBytes ∧ m.ar.length ≤ reachBytes) := by
  obtain ⟨cs, rfl, hsz⟩ := okWide_struct Try.underlying26 hv
  have hC : Try.prog.cellsOf 26 = 6 := by kernel_rfl
  obtain ⟨c0, c1, c2, c3, c4, c5, rfl⟩ := arr6 (hsz.trans hC)
  obtain ⟨fuel, hf⟩ := h
  obtain ⟨xs, m, _, hx, _, hl, hi⟩ := DataW.trod_struct Try.underlying26 hf
  have hc2 : Try.prog.cellsOf 3 = 1 := by kernel_rfl
  have hcq : Try.prog.cellsOf 23 = 1 := by kernel_rfl
  have hcr : Try.prog.cellsOf 24 = 1 := by kernel_rfl
  have h0 := hi 0 _ rfl
  have h1 := hi 1 _ rfl
  have h2 := hi 2 _ rfl
  have h3 := hi 3 _ rfl
  have h4 := hi 4 _ rfl
  have h5 := hi 5 _ rfl
  have hl' : xs.length = 6 := hl
  rw [List.getElem?_eq_getElem (by omega)] at h0 h1 h2 h3 h4 h5
  simp [hc2, hcq, hcr, Value.cells] at h0 h1 h2 h3 h4 h5
  obtain ⟨i, e0, _, w0⟩ := DataW.trod_int Try.underlying3 h0
  obtain ⟨b, e1, _, w1⟩ := DataW.trod_int Try.underlying3 h1
  simp at e0 e1
  subst e0 e1
  obtain ⟨qs, r2, f2, l2, g2⟩ := open_row_cell qnL QnFine 3 Try.underlying23 (by kernel_rfl) (by decide) (fun x => rfl) (fun n cs y hl ht => by
    match cs, hl with
    | [c0, c1, c2], _ => exact open_qn_cells ht) h2
  obtain ⟨an, r3, f3, l3, g3⟩ := open_row_cell recL8 RecFine 5 Try.underlying24 (by kernel_rfl) (by decide) (fun x => rfl) open_rr_cells h3
  obtain ⟨ns, r4, f4, l4, g4⟩ := open_row_cell recL8 RecFine 5 Try.underlying24 (by kernel_rfl) (by decide) (fun x => rfl) open_rr_cells h4
  obtain ⟨ar, r5, f5, l5, g5⟩ := open_row_cell recL8 RecFine 5 Try.underlying24 (by kernel_rfl) (by decide) (fun x => rfl) open_rr_cells h5
  simp only [Prod.mk.injEq] at hx
  have hz2 : (DataW.weightsEach Try.prog [3, 3, 23, 24, 24, 24] (xs.map (·.1))).all (· ≤ reachBytes) = true := by
    rw [hx.1, DataW.weights, Try.underlying26] at hz
    exact hz
  have hbq : 1 ≤ Try.prog.bytesOf 42 := of_decide_eq_true (by kernel_rfl)
  have hbr : 1 ≤ Try.prog.bytesOf 44 := of_decide_eq_true (by kernel_rfl)
  have big : ∀ a b k R : Nat, 1 ≤ k → (a + b) * k ≤ R → a ≤ R := fun a b k R hk h => by
    have : (a + b) * 1 ≤ (a + b) * k := Nat.mul_le_mul_left _ hk
    omega
  have z2 : qs.length ≤ reachBytes := by
    rcases g2 with rfl | ⟨es, sp, e1, e2⟩
    · exact Nat.zero_le _
    · have := sized_slice hz2 (j := 2) (elems := es) (spare := sp) rfl (by rw [List.getElem?_map, List.getElem?_eq_getElem (by omega)]; simp [e1]) Try.underlying23
      rw [← e2]; exact big _ _ _ _ hbq this
  have z3 : an.length ≤ reachBytes := by
    rcases g3 with rfl | ⟨es, sp, e1, e2⟩
    · exact Nat.zero_le _
    · have := sized_slice hz2 (j := 3) (elems := es) (spare := sp) rfl (by rw [List.getElem?_map, List.getElem?_eq_getElem (by omega)]; simp [e1]) Try.underlying24
      rw [← e2]; exact big _ _ _ _ hbr this
  have z4 : ns.length ≤ reachBytes := by
    rcases g4 with rfl | ⟨es, sp, e1, e2⟩
    · exact Nat.zero_le _
    · have := sized_slice hz2 (j := 4) (elems := es) (spare := sp) rfl (by rw [List.getElem?_map, List.getElem?_eq_getElem (by omega)]; simp [e1]) Try.underlying24
      rw [← e2]; exact big _ _ _ _ hbr this
  have z5 : ar.length ≤ reachBytes := by
    rcases g5 with rfl | ⟨es, sp, e1, e2⟩
    · exact Nat.zero_le _
    · have := sized_slice hz2 (j := 5) (elems := es) (spare := sp) rfl (by rw [List.getElem?_map, List.getElem?_eq_getElem (by omega)]; simp [e1]) Try.underlying24
      rw [← e2]; exact big _ _ _ _ hbr this
  refine ⟨⟨i, b, qs, an, ns, ar⟩, ⟨c2, c3, c4, c5, rfl, r2, r3, r4, r5⟩, ⟨⟨l2, fun x hx => (f2 x hx).1⟩, ⟨l3, fun x hx => ⟨(f3 x hx).1, (f3 x hx).2.1⟩⟩, ⟨l4, fun x hx => ⟨(f4 x hx).1, (f4 x hx).2.1⟩⟩, ⟨l5, fun x hx => ⟨(f5 x hx).1, (f5 x hx).2.1⟩⟩⟩, ⟨bounds_i64 w0, bounds_i64 w1, f2, f3, f4, f5⟩, z2, z3, z4, z5⟩
end Go.Proofs.Ytcohceggooockaa
