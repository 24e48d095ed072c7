/- A map of questions that is gone through, and out of which is deleted on the way. No condition. -/
import Derived.Test.YtedcjkfiljjpiaaMapsV
import Derived.Test.YtedcjkfiljjpiaaGrp5
import Derived.Test.YtedcjkfiljjpiaaShapesG
import Derived.Maps.RangeWalk
namespace Go.Proofs.Ytedcjkfiljjpiaa
open Go.RowKit
open Go.Maps (Keyed)

theorem lawQR : Go.Maps.Keyed Try.prog 32 := Go.Maps.Keyed.of_law (Go.deep_law_laid (show laidOutB Try.prog = true by kernel_rfl) (m := 8) (by decide) (of_decide_eq_true (by kernel_rfl)) (by kernel_rfl) (by kernel_rfl))
set_option maxRecDepth 100000 in
theorem keyLits_text {m : Nat} {v : Value} {ls : List Lit} (h : Try.prog.keyLits (m + 1) 9 [v] = some ls) : ∃ s : ByteArray, v = .string s ∧ s.size ≤ maxLen := by
  unfold Program.keyLits at h
  rw [Try.underlying9] at h
  cases v <;> simp at h
  exact ⟨_, rfl, h.1⟩
set_option maxRecDepth 100000 in
theorem keyLits_num {m : Nat} {v : Value} {ls : List Lit} (h : Try.prog.keyLits (m + 1) 3 [v] = some ls) : ∃ x : Int, v = .int .i64 x ∧ (-9223372036854775808 ≤ x ∧ x ≤ 9223372036854775807) := by
  unfold Program.keyLits at h
  rw [Try.underlying3] at h
  cases v <;> simp at h
  obtain ⟨⟨rfl, hw⟩, _⟩ := h
  exact ⟨_, rfl, bounds_i64 hw⟩
set_option maxRecDepth 100000 in
/-- What reads as a key is a question. -/
theorem keyQ_inv {key : Value} {kl : Lit} (h : keyOf Try.prog 32 key = some kl) : ∃ q, key = qnV q ∧ QnFine q := by
  obtain ⟨m, hm⟩ : ∃ m, Try.prog.types.size = m + 1 := ⟨Try.prog.types.size - 1, by kernel_rfl⟩
  have hC : Try.prog.cellsOf 32 = 3 := by kernel_rfl
  have hC1 : Try.prog.cellsOf 9 = 1 := by kernel_rfl
  have hC2 : Try.prog.cellsOf 3 = 1 := by kernel_rfl
  unfold keyOf at h
  rw [Try.underlying32] at h
  simp only at h
  split at h
  · rename_i hf
    rw [Bool.and_eq_true] at hf
    have hfm := hf.2
    unfold Value.formed at hfm
    rw [Try.underlying32] at hfm
    cases key <;> simp at hfm
    rename_i cs
    rw [hC] at hfm
    obtain ⟨l⟩ := cs
    match l, hfm with
    | [c0, c1, c2], _ =>
      rw [hm] at h
      unfold Program.keyLits at h
      rw [Try.underlying32] at h
      simp only [Value.cells, hC] at h
      simp [hC1, hC2] at h
      cases e0 : Try.prog.keyLits (m + 1) 9 [c0] with
      | none => rw [e0] at h; simp at h
      | some l0 =>
        cases e1 : Try.prog.keyLits (m + 1) 3 [c1] with
        | none => rw [e0, e1] at h; simp at h
        | some l1 =>
          cases e2 : Try.prog.keyLits (m + 1) 3 [c2] with
          | none => rw [e0, e1, e2] at h; simp at h
          | some l2 =>
            obtain ⟨s, rfl, hs⟩ := keyLits_text e0
            obtain ⟨x, rfl, hx⟩ := keyLits_num e1
            obtain ⟨y, rfl, hy⟩ := keyLits_num e2
            exact ⟨⟨s, x, y⟩, rfl, hs, hx, hy⟩
  · cases h

/-- A map is gone through: lf: who is still to come. -/
def RangeV (w : World) (b r n : Nat) (f : Qn → Option Value) (lf : Qn → Bool) (cnt : Nat) : Prop :=
  ∃ (D : DataW Value) (left : Lit → Bool), w.ranges Try.prog 32 heldR b r n D left cnt ∧ (∀ a kl, keyOf Try.prog 32 (qnV a) = some kl → Maps.has D kl = (f a).isSome ∧ ∀ v, f a = some v → ∀ z, D.atKey kl z = .held v) ∧ (∀ a kl, keyOf Try.prog 32 (qnV a) = some kl → left kl = lf a)
theorem RangeV.map {w : World} {b r n : Nat} {f : Qn → Option Value} {lf : Qn → Bool} {cnt : Nat} (h : RangeV w b r n f lf cnt) : MapV w 32 qnV b n f := by
  obtain ⟨D, left, h1, h2, _⟩ := h
  exact ⟨D, h1.owns, h2⟩
theorem RangeV.ne {w : World} {b r n : Nat} {f : Qn → Option Value} {lf : Qn → Bool} {cnt : Nat} (h : RangeV w b r n f lf cnt) : r ≠ b ∧ r < w.heap.size ∧ b < w.heap.size := by
  obtain ⟨D, left, h1, h2, _⟩ := h
  exact ⟨h1.ne, h1.lt, h1.owns.lt⟩
theorem RangeV.left_eq {w : World} {b r n : Nat} {f : Qn → Option Value} {lf : Qn → Bool} {cnt : Nat} (h : RangeV w b r n f lf cnt) : w.rangeLeft b r = cnt := by
  obtain ⟨D, left, h1, h2, _⟩ := h
  exact h1.left_eq
theorem RangeV.same {w w' : World} {b r n : Nat} {f : Qn → Option Value} {lf : Qn → Bool} {cnt : Nat} (h : RangeV w b r n f lf cnt) (e1 : w'.heap[b]? = w.heap[b]?) (e2 : w'.heap[r]? = w.heap[r]?) : RangeV w' b r n f lf cnt := by
  obtain ⟨D, left, ⟨es, clock, since, seen, c0, hb, F, hs, hD, hr, rest⟩, h2, h3⟩ := h
  exact ⟨D, left, ⟨es, clock, since, seen, c0, e1.trans hb, F, hs, hD, e2.trans hr, rest⟩, h2, h3⟩
theorem RangeV.keeps {w w' : World} {b r n : Nat} {f : Qn → Option Value} {lf : Qn → Bool} {cnt : Nat} (h : RangeV w b r n f lf cnt) (k : Keeps w w') : RangeV w' b r n f lf cnt := h.same (k.block b h.ne.2.2) (k.block r h.ne.2.1)
/-- Who is equal keeps one key. -/
theorem key_ne {x y : Qn} {kx ky : Lit} (hx : keyOf Try.prog 32 (qnV x) = some kx) (hy : keyOf Try.prog 32 (qnV y) = some ky) : kx.sameKey ky = decide (x = y) := by
  by_cases e : x = y
  · subst e
    rw [hx] at hy
    cases hy
    rw [decide_eq_true rfl]
    exact WideAt.sameKey_self (lawQR.key hx)
  · rw [decide_eq_false e]
    cases hk : kx.sameKey ky
    · rfl
    · have := WideAt.sameKey_eq hk
      subst this
      exact absurd (qnV_inj _ _ (lawQR.inj hx hy)) e

section
variable {w : World} {ops : Array Oper} {rest : List Oper} {o : Oper} {a : Act} {Q : Exit → Act → World → Prop}
/-- 'range m'. -/
theorem wpList_range_V (hg : o.guard = none) (x : Operand) (t e : TypeId) (hop : o.op = Op.range t x) (ht : Try.prog.underlying t = some (.map 32 e)) (b n : Nat) (f : Qn → Option Value) (hm : a.eval x = .map (some b)) (h : MapV w 32 qnV b n f)
    (hK : ∀ w' cnt, RangeV w' b w.heap.size n f (fun q => (f q).isSome) cnt → w.grownBy w' none → w'.heap.size = w.heap.size + 1 → wpList Try.prog ops Q rest (a.put o.dst (.pointer (some ⟨w.heap.size, 0, none⟩))) w') : wpList Try.prog ops Q (o :: rest) a w := by
  obtain ⟨D, h1, h2⟩ := h
  exact wpList_range_own w hg x t hop 32 e lawQR ht heldR b n D hm h1 (fun w' hr hgr hs => hK w' _ ⟨D, _, hr, h2, fun q kl hq => (h2 q kl hq).1⟩ hgr hs)
/-- The step. -/
theorem wpList_next_V (hg : o.guard = none) (it : Operand) (hop : o.op = Op.next it false) (b r n : Nat) (f : Qn → Option Value) (lf : Qn → Bool) (cnt : Nat) (hit : a.eval it = .pointer (some ⟨r, 0, none⟩)) (h : RangeV w b r n f lf cnt)
    (hDone : (∀ q, QnFine q → lf q = false) → wpList Try.prog ops Q rest (a.put o.dst (.tuple #[.bool false])) w)
    (hMore : ∀ (q : Qn) (c : Value) (w' : World) (cnt' : Nat), QnFine q → lf q = true → RangeV w' b r n f (fun z => lf z && !decide (z = q)) cnt' → cnt' < cnt → w.grownBy w' (some r) → w'.heap.size = w.heap.size → (Instr.entry (.pointer (some ⟨r, 0, none⟩))).run Try.prog w' = .ok (.tuple #[.agg #[.string q.n, .int .i64 q.t, .int .i64 q.c], c]) w' → wpList Try.prog ops Q rest (a.put o.dst (.tuple #[.bool true, .agg #[.string q.n, .int .i64 q.t, .int .i64 q.c], c])) w') :
    wpList Try.prog ops Q (o :: rest) a w := by
  obtain ⟨D, left, h1, h2, h3⟩ := h
  refine wpList_next_ranges w hg it hop 32 lawQR heldR (fun q : Qn => qnV q) (fun c : Value => c) (fun key kl hk => ?_) (fun v y _ => ⟨v, rfl⟩) b r n D left cnt hit h1 (fun _ hl => hDone fun q hq => ?_) (fun q c kl y w' cnt' hk hlk _ _ hr hlt hgr hs hen => ?_)
  · obtain ⟨q, hq, _⟩ := keyQ_inv hk
    exact ⟨q, hq⟩
  · obtain ⟨kl, hk⟩ := keyQ q hq.1 hq.2.1 hq.2.2
    rw [← h3 q kl hk]
    exact hl kl
  · have hqf : QnFine q := by
      obtain ⟨q', e, hf⟩ := keyQ_inv hk
      rw [qnV_inj _ _ e]
      exact hf
    refine hMore q c w' cnt' hqf ((h3 q kl hk).symm.trans hlk) ⟨D, _, hr, h2, fun z kz hz => ?_⟩ hlt hgr hs hen
    rw [h3 z kz hz, key_ne hz hk]
/-- 'delete(m, q)' on the way, as a step of a region that draws. -/
theorem step_delRV {K : Act → World → Prop} {Q' : Exit → Act → World → Prop} {E : Prop} {b r n cnt : Nat} {f : Qn → Option Value} {lf : Qn → Bool}
    (hgd : o.guard = none) (x y : Operand) (t e : TypeId) (ho : o.op = .call { callee := .builtin .delete, args := #[x, y], argTypes := #[t, 32] }) (ht : Try.prog.underlying t = some (.map 32 e))
    (hm : a.eval x = .map (some b)) (h : RangeV w b r n f lf cnt) (q : Qn) (hq : QnFine q) (hx : a.eval y = .agg #[.string q.n, .int .i64 q.t, .int .i64 q.c])
    (hK : ∀ w' cnt', RangeV w' b r n (fun k => if k = q then none else f k) (fun z => lf z && !decide (z = q)) cnt' → cnt' ≤ cnt → w.mapTurned w' b → K (a.put o.dst (.tuple #[])) w') :
    if Region.wanted o (yielded ops a.tmps) = true then Oper.wp Try.prog o a w K Q' else E := by
  have hw : Region.wanted o (yielded ops a.tmps) = true := by simp [Region.wanted, hgd]
  rw [if_pos hw]
  obtain ⟨kl, hkl⟩ := keyQ q hq.1 hq.2.1 hq.2.2
  obtain ⟨D, left, h1, h2, h3⟩ := h
  obtain ⟨w', cnt', hrun, hr, hle, htn⟩ := h1.drop lawQR ht hkl o.type
  unfold qnV at hrun
  unfold Oper.wp
  simp [execOp, ho, resolve, invoke, builtin, hm, hx, hrun, Result.andThen]
  refine hK w' cnt' ⟨D.del kl, _, hr, fun z kz hz => ?_, fun z kz hz => ?_⟩ hle htn
  · by_cases hzq : z = q
    · subst hzq
      rw [hkl] at hz
      cases hz
      exact ⟨by rw [Maps.has_del_same]; simp, fun d hd => by simp at hd⟩
    · have hne : kz ≠ kl := by
        intro e1
        subst e1
        exact hzq (qnV_inj _ _ (lawQR.inj hz hkl))
      obtain ⟨h5, h6⟩ := h2 z kz hz
      rw [Maps.has_del_other hne]
      simp only [if_neg hzq]
      exact ⟨h5, fun d hd z => by rw [Maps.atKey_del_other hne]; exact h6 d hd z⟩
  · rw [h3 z kz hz, key_ne hz hkl]
end
end Go.Proofs.Ytedcjkfiljjpiaa
