/- From of package group. No condition but lengths. -/
import Derived.Test.YtgfaoaabnjblhaaGrp6
import Derived.Deep.CutRange
import Derived.Maps.AppendAt
import Derived.Deep.DeepCutAuto
namespace Go.Proofs.Ytgfaoaabnjblhaa
open Go.RowKit

/-- A call that answers sets. -/
def SetsEnd (w : World) (l : List St) (e : Ending) (w' : World) : Prop := ∃ v, e = .returned v ∧ SetsAt w' v l ∧ Keeps w w'
theorem SetsEnd.mk {w w' : World} {l : List St} {v : Value} (h : SetsAt w' v l) (k : Keeps w w') : SetsEnd w l (.returned v) w' := ⟨v, rfl, h, k⟩
theorem from_step (l : List Rec) (j : Nat) (hj : j < l.length) : fromM (l.take (j + 1)) = stepM (fromM (l.take j)) l[j] := by
  rw [fromM, List.take_succ_eq_append_getElem hj, List.foldl_append]
  rfl

theorem MapAt.mono {w : World} {k e : TypeId} {α : Type} {kv : α → Value} {b n n' : Nat} {f : α → Option Int} (h : MapAt w k e kv b n f) (hn : n ≤ n') : MapAt w k e kv b n' f := by
  obtain ⟨D, h1, h2⟩ := h
  exact ⟨D, h1.mono hn, h2⟩
theorem key_used {r : Rec} (hu : usedB r = true) : keyM r = ⟨lowS r.n, r.t, r.c⟩ ∧ 0 < (lowS r.n).size ∧ r.t ≠ 41 ∧ (lowS r.n).size ≤ 255 ∧ (0 ≤ r.t ∧ r.t ≤ 65535) ∧ (0 ≤ r.c ∧ r.c ≤ 65535) := by
  simp only [usedB, Bool.and_eq_true, decide_eq_true_eq] at hu
  obtain ⟨hok, h41⟩ := hu
  have h1 : keyM r = ⟨lowS r.n, r.t, r.c⟩ := by rw [keyM, if_pos hok]
  simp only [recOk, num2, Bool.and_eq_true, decide_eq_true_eq] at hok
  have hn := hok.1.1.1.1
  have hz : (lowS r.n).size = (bl r.n).length := by
    rw [lowS, if_pos hn]
    show (Nm.lowL (bl r.n)).toArray.size = _
    simp [Nm.lowL]
  have hb := ((Nm.okL_spec _).1 hn).1
  refine ⟨h1, ?_, h41, by omega, hok.1.1.1.2, hok.1.1.2⟩
  rw [hz]
  rcases Nat.eq_zero_or_pos (bl r.n).length with h0 | h0
  · have : bl r.n = [] := List.length_eq_zero_iff.1 h0
    rw [this] at hn
    exact absurd hn (by decide)
  · exact h0
theorem key_skip {r : Rec} (hu : usedB r = false) : (keyM r).n.size = 0 ∨ (keyM r).t = 41 := by
  by_cases hok : recOk r = true
  · right
    have h1 : keyM r = ⟨lowS r.n, r.t, r.c⟩ := by rw [keyM, if_pos hok]
    rw [h1]
    simp only [usedB, hok, Bool.true_and, decide_eq_false_iff_not, Decidable.not_not, ne_eq] at hu
    exact hu
  · left
    rw [keyM, if_neg hok]
    rfl

theorem map_blk {w : World} {k e : TypeId} {α : Type} {kv : α → Value} {b n : Nat} {f : α → Option Int} (h : MapAt w k e kv b n f) {G : Nat} {cs : Array Value} {ty : TypeId} (hB : Blk w G cs ty) : b ≠ G := by
  obtain ⟨D, ⟨es, clock, hb, _⟩, _⟩ := h
  rintro rfl
  unfold Blk at hB
  rw [hB] at hb
  simp at hb
theorem row_blk {w : World} {B : Nat} {e : TypeId} {c : Nat} {v : Value} {n : Nat} {xs : List Value} (h : w.ownsRow B e c v n xs) {G : Nat} {cs : Array Value} {ty : TypeId} (hB : Blk w G cs ty) (hne : e ≠ ty) : v.ownBlock ≠ some G := by
  intro hg
  rcases h.2 with ⟨rfl, _⟩ | ⟨a, cap, cur, rfl, _, h1, _⟩
  · simp [Value.ownBlock] at hg
  simp [Value.ownBlock] at hg
  subst hg
  unfold Blk at hB
  rw [hB] at h1
  simp at h1
  exact hne h1.2.symm
theorem Blk.grown {w w' : World} {G : Nat} {cs : Array Value} {ty : TypeId} (h : Blk w G cs ty) {row : Option Nat} (hg : w.grownBy w' row) (hne : row ≠ some G) : Blk w' G cs ty :=
  (hg.block G h.lt (fun e => hne e.symm)).trans h
theorem Keeps.grown {w wr w' : World} (k : Keeps w wr) {row : Option Nat} (hg : wr.grownBy w' row) (hB : ∀ g, row = some g → w.heap.size ≤ g) : Keeps w w' := Below.grown k hg k.size (fun g h => hB g h)
theorem SetsOwn.grown {w w' : World} {B : Nat} {v : Value} {ss : List (St × Value)} (h : SetsOwn w B v ss) {b : Nat} {k e : TypeId} {α : Type} {kv : α → Value} {n : Nat} {f : α → Option Int} (hm : MapAt w k e kv b n f) (hg : w.grownBy w' (some b)) : SetsOwn w' B v ss :=
  ⟨⟨World.ownsRow.kept h.row.1 hg (.inr (map_apart hm h.row.1).symm), h.row.2⟩, fun x hx => World.ownsRow.kept (h.ds x hx) hg (.inr (map_apart hm (h.ds x hx)).symm), h.apart⟩
/-- 'l = append(l, x)', x a struct of c cells: what has turned. -/
theorem wpList_appRg (ty sty : TypeId) (c bytes : Nat) (z : Value) (w : World) {ops : Array Oper} {rest : List Oper} {o : Oper} {a : Act} {Q : Exit → Act → World → Prop}
    (hu : Try.prog.underlying sty = some (.slice ty)) (hinfo : (Try.prog.info? ty).map (fun i => (i.zero, i.size, i.bytes)) = some (some z, c, bytes)) (hz : z.cells.size = c) (hc0 : 0 < c)
    (hgd : o.guard = none) (s x : Operand)
    (ho : o.op = .call { callee := .builtin .append, args := #[s, x], argTypes := #[sty, sty] })
    (B : Nat) (v : Value) (l : List (List Value)) (hs : a.eval s = v) (hown : OwnsR w B ty c v l) (ad : Addr) (cp : Nat) (b : List Value) (hx : a.eval x = .slice (some ad) 1 cp)
    (hb : b.length = c) (hone : ∀ u ∈ b, u.oneCell' = true)
    (hcell : ∀ j u, b[j]? = some u → w.cell? (ad.add j) = some u) (hlen : l.length + 1 ≤ maxLen) (hbytes : (l.length + 1) * bytes ≤ 140737488355328) (hB : B ≤ w.heap.size)
    (h : ∀ v' w', OwnsR w' B ty c v' (l ++ [b]) → w.grownBy w' v.ownBlock → wpList Try.prog ops Q rest (a.put o.dst v') w') : wpList Try.prog ops Q (o :: rest) a w := by
  obtain ⟨i0, hi, hz0, hz1, hz2⟩ := info_parts hinfo
  refine wpList_append_own w hgd s x sty ho B ty i0 z c bytes hu hi hz0 hz1 hz2 hz hc0 v l.length l.flatten hs hown.1 ad 1 cp b hx (by omega) hcell hone hlen hbytes hB ?_
  intro v' w' h2 h3 _
  refine h v' w' ⟨?_, ?_⟩ h3
  · rw [List.length_append, List.flatten_append]
    simpa using h2
  · intro r hr
    rw [List.mem_append] at hr
    rcases hr with hr | hr
    · exact hown.2 r hr
    · simp at hr; subst hr; exact hb
theorem lowD_len (k : Int) (d : List UInt8) : (Dt.lowD k d).length ≤ 65535 := by
  unfold Dt.lowD
  match h : Dt.wholeL k d with
  | none => simp
  | some x =>
    have h1 := (Dt.wholeL_join h).1
    have h2 := (Dt.whole_names h).2.2
    have h3 : (x.ns.map Nm.lowL).flatten.length = x.ns.flatten.length := by
      have : ∀ l : List (List UInt8), (l.map Nm.lowL).flatten.length = l.flatten.length := by
        intro l
        induction l with
        | nil => rfl
        | cons a l ih => rw [List.map_cons, List.flatten_cons, List.length_append, ih, List.flatten_cons, List.length_append]; simp [Nm.lowL]
      exact this _
    rw [← h1] at h2
    simp only [Dt.Pt.join, List.length_append] at h2
    simp only [List.length_append, h3]
    exact h2
theorem tyS_RR : (35 : TypeId) ≠ 95 := by decide
theorem tyS_Q : (35 : TypeId) ≠ 32 := by decide

theorem OwnsS.formS {w : World} {B : Nat} {v : Value} {l : List (List UInt8)} (h : OwnsS w B v l) : ∃ a cap, v = .slice a l.length cap := by
  rcases h.2 with ⟨rfl, hn⟩ | ⟨g, cap, cur, rfl, _⟩
  · exact ⟨none, 0, by rw [hn]⟩
  · exact ⟨_, cap, rfl⟩
theorem infoStr : (Try.prog.info? 9).map (fun i => (i.zero, i.size, i.bytes)) = some (some (.string ⟨#[]⟩), 1, 16) := by kernel_rfl
/-- 'l = append(l, x)', x a text, as one step of a region that draws; where the new slice lies. -/
theorem step_appSat {w : World} {ops : Array Oper} {o : Oper} {a : Act} {K : Act → World → Prop} {Q : Exit → Act → World → Prop} {E : Prop} (hgd : o.guard = none) (s x : Operand)
    (ho : o.op = .call { callee := .builtin .append, args := #[s, x], argTypes := #[33, 33] })
    (B : Nat) (v : Value) (l : List (List UInt8)) (hs : a.eval s = v) (hown : OwnsS w B v l) (ad : Addr) (c : Nat) (b : List UInt8) (hx : a.eval x = .slice (some ad) 1 c)
    (hcell : w.cell? ad = some (sv b)) (hlen : l.length + 1 ≤ 1099511627776) (hB : B ≤ w.heap.size)
    (h : ∀ v' w', OwnsS w' B v' (l ++ [b]) → w.grownBy w' v.ownBlock → (v'.ownBlock = v.ownBlock ∨ v'.ownBlock = some w.heap.size) → K (a.put o.dst v') w') :
    if Region.wanted o (yielded ops a.tmps) = true then Oper.wp Try.prog o a w K Q else E := by
  have hw : Region.wanted o (yielded ops a.tmps) = true := by simp [Region.wanted, hgd]
  rw [if_pos hw]
  obtain ⟨i0, hi, hz0, hz1, hz2⟩ := info_parts infoStr
  obtain ⟨v', w', hr, h2, h3, h4, h5⟩ := run_append_own_at (P := Try.prog) w B 33 o.type 9 i0 (.string ⟨#[]⟩) 1 16 Try.underlying33 hi hz0 hz1 hz2 rfl (by decide) v l.length (l.map sv) hown ad 1 c [sv b] rfl (by
    intro j u hu
    match j, hu with
    | 0, hu =>
      simp at hu
      subst hu
      have : ad.add 0 = ad := by simp [Addr.add]
      rw [this]
      exact hcell) (sv_oneCell [b]) (by unfold maxLen; omega) (by omega) hB
  unfold Oper.wp execOp
  simp only [ho, resolve, invoke, builtin, Sem.run_bind, Sem.run_pure, Result.andThen_ok, List.map_toArray, List.map_cons, List.map_nil, hs, hx, hr]
  refine h v' w' ?_ h3 h5
  unfold OwnsS
  rw [List.length_append, List.map_append]
  exact h2
theorem SetsOwn.cell3 {w w' : World} {B g cap n : Nat} {ss : List (St × Value)} (h : SetsOwn w B (.slice (some ⟨g, 0, none⟩) n cap) ss) (hn : ss.length = n) (i : Nat) (hi : i < ss.length) (hg : w.grownBy w' ss[i].2.ownBlock) : w'.cell? ⟨g, i * 5 + 3, none⟩ = some ss[i].2 ∧ w'.frozen? ⟨g, i * 5 + 3, none⟩ = false := by
  have hne : (Value.slice (some ⟨g, 0, none⟩) n cap).ownBlock ≠ ss[i].2.ownBlock := fun e => rows_apart (g := g) h.row.1 (h.ds _ (List.getElem_mem hi)) ty_apart rfl e.symm
  have row' : w'.ownsRow B 35 5 (.slice (some ⟨g, 0, none⟩) n cap) ss.length (ss.map stR).flatten := by
    have := World.ownsRow.kept h.row.1 hg (.inr hne)
    rw [List.length_map] at this
    exact this
  subst hn
  refine ⟨?_, World.ownsRow.frozenAt row' _⟩
  rw [World.ownsRow.cellAt row' (i * 5 + 3) (by have : (i + 1) * 5 ≤ ss.length * 5 := Nat.mul_le_mul_right _ hi; omega), flat_get _ h.row.2 i 3 (by rw [List.length_map]; exact hi) (by decide), List.getElem_map]
  rfl

end Go.Proofs.Ytgfaoaabnjblhaa
