/- 'append(l, x...)', x a slice of structs, or of texts, that may be nil. No condition. -/
import Derived.Test.YtdlaepfnogmebaaMsg
namespace Go.Proofs.Ytdlaepfnogmebaa
open Go.RowKit

theorem run_append_none (base : Nat) (t ty e : TypeId) (i : TypeInfo) (size cx : Nat) {w : World} (ht : Try.prog.underlying t = some (.slice e)) (hi : Try.prog.info? e = some i)
    (v : Value) (n : Nat) (xs : List Value) (hown : w.ownsRow base e size v n xs) :
    (Builtin.append_ #[t, t] ty #[v, .slice none 0 cx]).run Try.prog w = .ok v w := by
  rcases hown.2 with ⟨rfl, rfl⟩ | ⟨g, cap, cur, rfl, _, _, hnc, _⟩
  · simp [Builtin.append_, run_underlying ht, sizeOf, typeInfo, hi, Builtin.lenOf, Builtin.firstCells]
  · simp [Builtin.append_, run_underlying ht, sizeOf, typeInfo, hi, Builtin.lenOf, Builtin.firstCells, hnc, storeCells]

theorem flat_len {c : Nat} : ∀ (b : List (List Value)), (∀ r ∈ b, r.length = c) → b.flatten.length = b.length * c
  | [], _ => by simp
  | r :: b, h => by
    rw [List.flatten_cons, List.length_append, flat_len b (fun r hr => h r (by simp [hr])), h r (by simp), List.length_cons, Nat.succ_mul]; exact Nat.add_comm _ _

/-- 'l = append(l, x...)', each row of c cells. -/
theorem wpList_appRs (ty sty : TypeId) (c bytes : Nat) (z : Value) (w : World) {ops : Array Oper} {rest : List Oper} {o : Oper} {a : Act} {Q : Exit → Act → World → Prop}
    (hu : Try.prog.underlying sty = some (.slice ty)) (hinfo : (Try.prog.info? ty).map (fun i => (i.zero, i.size, i.bytes)) = some (some z, c, bytes)) (hz : z.cells.size = c) (hc0 : 0 < c)
    (hgd : o.guard = none) (s x : Operand)
    (ho : o.op = .call { callee := .builtin .append, args := #[s, x], argTypes := #[sty, sty] })
    (B : Nat) (v : Value) (l : List (List Value)) (hs : a.eval s = v) (hown : OwnsR w B ty c v l) (vx : Value) (hx : a.eval x = vx) (b : List (List Value)) (hr : ReadRow w vx c b)
    (hb : ∀ r ∈ b, r.length = c) (hone : ∀ r ∈ b, ∀ u ∈ r, u.oneCell' = true)
    (hlen : l.length + b.length ≤ maxLen) (hbytes : (l.length + b.length) * bytes ≤ 140737488355328) (hB : B ≤ w.heap.size)
    (h : ∀ v' w', OwnsR w' B ty c v' (l ++ b) → Below B w w' → w.grownBy w' v.ownBlock → wpList Try.prog ops Q rest (a.put o.dst v') w') : wpList Try.prog ops Q (o :: rest) a w := by
  obtain ⟨i0, hi, hz0, hz1, hz2⟩ := info_parts hinfo
  by_cases hp : 0 < b.length
  · obtain ⟨av, cap, rfl, hcap, hpp⟩ := hr
    obtain ⟨g, off, rfl, hlt, hcell⟩ := hpp hp
    refine wpList_append_own w hgd s x sty ho B ty i0 z c bytes hu hi hz0 hz1 hz2 hz hc0 v l.length l.flatten hs hown.1 ⟨g, off, none⟩ b.length cap b.flatten hx ?_ ?_ ?_ hlen hbytes hB ?_
    · exact flat_len b hb
    · intro j u hj
      have hjl : j < b.length * c := by
        have e := flat_len b hb
        have := (List.getElem?_eq_some_iff.1 hj).1
        omega
      have hd : j / c < b.length := Nat.div_lt_of_lt_mul (by rw [Nat.mul_comm]; exact hjl)
      have hm : j % c < c := Nat.mod_lt _ hc0
      have ej : j = (j / c) * c + j % c := by rw [Nat.mul_comm]; exact (Nat.div_add_mod j c).symm
      have h1 := hcell (j / c) hd (j % c) hm
      rw [ej, flat_get b hb (j / c) (j % c) hd hm] at hj
      have ea : (⟨g, off, none⟩ : Addr).add j = ⟨g, off + ((j / c) * c + j % c), none⟩ := by
        rw [← ej]; simp [Addr.add]
      rw [ea]
      rw [← Nat.add_assoc]
      exact h1.trans hj
    · intro u hu
      obtain ⟨r, hr, hur⟩ := List.mem_flatten.1 hu
      exact hone r hr u hur
    · intro v' w' h2 h3 _
      refine h v' w' ⟨?_, ?_⟩ (Below.grown (Below.refl _ _) h3 hB fun k hk => (World.ownsRow.lt hown.1 k hk).1) h3
      · rw [List.length_append, List.flatten_append]
        exact h2
      · intro r hr
        rw [List.mem_append] at hr
        rcases hr with hr | hr
        · exact hown.2 r hr
        · exact hb r hr
  · have hb0 : b = [] := List.length_eq_zero_iff.1 (by omega)
    subst hb0
    rw [List.append_nil] at h
    obtain ⟨av, cap, rfl, _, _⟩ := hr
    cases av with
    | none =>
      refine wpList_plain hgd fun K hK => ?_
      have hrun := run_append_none (w := w) B sty o.type ty i0 c cap hu hi v l.length l.flatten hown.1
      unfold Oper.wp
      simp [execOp, ho, resolve, invoke, builtin, hs, hx, hrun, Result.andThen]
      exact hK _ _ (h v w hown (Below.refl _ _) (World.grownBy.refl _ _))
    | some ad =>
      refine wpList_append_own w hgd s x sty ho B ty i0 z c bytes hu hi hz0 hz1 hz2 hz hc0 v l.length l.flatten hs hown.1 ad 0 cap [] hx (by simp) (by simp) (by simp) hlen hbytes hB ?_
      intro v' w' h2 h3 _
      refine h v' w' ⟨?_, hown.2⟩ (Below.grown (Below.refl _ _) h3 hB fun k hk => (World.ownsRow.lt hown.1 k hk).1) h3
      simpa using h2
end Go.Proofs.Ytdlaepfnogmebaa
