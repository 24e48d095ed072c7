/- From of package group. No condition but lengths. -/
import Derived.Test.YtdfhojhljfcolaaGrp6
import Derived.Deep.CutRange
import Derived.Maps.AppendAt
import Derived.Deep.DeepCutAuto
namespace Go.Proofs.Ytdfhojhljfcolaa
open Go.RowKit

/-- A call that answers sets. -/
def SetsEnd (w : World) (l : List St) (e : Ending) (w' : World) : Prop := ∃ v, e = .returned v ∧ SetsAt w' v l ∧ Keeps w w'
theorem SetsEnd.mk {w w' : World} {l : List St} {v : Value} (h : SetsAt w' v l) (k : Keeps w w') : SetsEnd w l (.returned v) w' := ⟨v, rfl, h, k⟩
/-- How far From has come: j records. -/
def FromSt (w : World) (l : List Rec) (P M : Nat) (j : Nat) (v : Value) (wr : World) : Prop :=
  ∃ (ss : List (St × Value)) (f : Qn → Option Int) (g : Int × List UInt8 → Option Int), ss.map (·.1) = fromM (l.take j) ∧ ss.length ≤ j ∧ (∀ x ∈ ss, x.1.ds.length ≤ j) ∧ SetsOwn wr w.heap.size v ss ∧
    MapAt wr 26 3 qnV P j f ∧ PlOk f (ss.map (·.1)) ∧ MapAt wr 53 3 memV M j g ∧ MbOk g (ss.map (·.1)) ∧ Keeps w wr
def FromRel (w : World) (l : List Rec) (P M : Nat) (v i : Value) (wr : World) : Prop := ∃ j : Nat, j ≤ l.length ∧ i = .int .i64 j ∧ FromSt w l P M j v wr
theorem from_step (l : List Rec) (j : Nat) (hj : j < l.length) : fromM (l.take (j + 1)) = stepM (fromM (l.take j)) l[j] := by
  rw [fromM, List.take_succ_eq_append_getElem hj, List.foldl_append]
  rfl

/-- Where From stands once the record's set is there: it is the i-th. -/
def MidSt (w : World) (l : List Rec) (P M j : Nat) (r : Rec) (i : Nat) (v : Value) (wx : World) : Prop :=
  ∃ (ss : List (St × Value)) (f : Qn → Option Int) (g : Int × List UInt8 → Option Int) (hi : i < ss.length),
    fromM (l.take (j + 1)) = (ss.map (·.1)).set i ⟨ss[i].1.key, addD ss[i].1.ds (lowR r), min ss[i].1.ttl r.l⟩ ∧ ss.length ≤ j + 1 ∧ (∀ x ∈ ss, x.1.ds.length ≤ j) ∧ SetsOwn wx w.heap.size v ss ∧
    MapAt wx 26 3 qnV P (j + 1) f ∧ PlOk f (ss.map (·.1)) ∧ MapAt wx 53 3 memV M j g ∧ MbOk g (ss.map (·.1)) ∧ Keeps w wx
def MidRel (w : World) (l : List Rec) (P M j : Nat) (r : Rec) (Gr Gk : Nat) (v a : Value) (wx : World) : Prop :=
  ∃ i : Nat, a = .int .i64 i ∧ i < 1000001 ∧ MidSt w l P M j r i v wx ∧ Blk wx Gr #[.string r.n, .int .i64 r.t, .int .i64 r.c, .int .i64 r.l, .string r.d] 29 ∧ Blk wx Gk #[.string (keyM r).n, .int .i64 (keyM r).t, .int .i64 (keyM r).c] 26
theorem MapAt.mono {w : World} {k e : TypeId} {α : Type} {kv : α → Value} {b n n' : Nat} {f : α → Option Int} (h : MapAt w k e kv b n f) (hn : n ≤ n') : MapAt w k e kv b n' f := by
  obtain ⟨D, h1, h2⟩ := h
  exact ⟨D, h1.mono hn, h2⟩
theorem FromSt.keeps {w : World} {l : List Rec} {P M j : Nat} {v : Value} {wr w' : World} (h : FromSt w l P M j v wr) (k : Keeps wr w') : FromSt w l P M j v w' := by
  obtain ⟨ss, f, g, h1, h2, h3, h4, h5, h6, h7, h8, h9⟩ := h
  exact ⟨ss, f, g, h1, h2, h3, h4.below k, h5.keeps k, h6, h7.keeps k, h8, h9.trans k⟩
theorem FromSt.skip {w : World} {l : List Rec} {P M j : Nat} {v : Value} {wr : World} (h : FromSt w l P M j v wr) (hj : j < l.length) (hu : usedB l[j] = false) : FromSt w l P M (j + 1) v wr := by
  obtain ⟨ss, f, g, h1, h2, h3, h4, h5, h6, h7, h8, h9⟩ := h
  refine ⟨ss, f, g, ?_, by omega, fun x hx => Nat.le_succ_of_le (h3 x hx), h4, h5.mono (Nat.le_succ _), h6, h7.mono (Nat.le_succ _), h8, h9⟩
  rw [from_step l j hj, stepM, hu]
  exact h1
theorem key_used {r : Rec} (hu : usedB r = true) : keyM r = ⟨lowS r.n, r.t, r.c⟩ ∧ 0 < (lowS r.n).size ∧ r.t ≠ 41 ∧ (lowS r.n).size ≤ 255 ∧ (0 ≤ r.t ∧ r.t ≤ 65535) ∧ (0 ≤ r.c ∧ r.c ≤ 65535) := by
  simp only [usedB, Bool.and_eq_true, decide_eq_true_eq] at hu
  obtain ⟨hok, h41⟩ := hu
  have h1 : keyM r = ⟨lowS r.n, r.t, r.c⟩ := by rw [keyM, if_pos hok]
  simp only [recOk, num2, Bool.and_eq_true, decide_eq_true_eq] at hok
  have hn := hok.1.1.1.1
  have hz : (lowS r.n).size = (bl r.n).length := by
    rw [lowS, if_pos hn]
    show (Nm.lowL (bl r.n)).toArray.size = _
    simp [Nm.lowL]
  have hb := ((Nm.okL_spec _).1 hn).1
  refine ⟨h1, ?_, h41, by omega, hok.1.1.1.2, hok.1.1.2⟩
  rw [hz]
  rcases Nat.eq_zero_or_pos (bl r.n).length with h0 | h0
  · have : bl r.n = [] := List.length_eq_zero_iff.1 h0
    rw [this] at hn
    exact absurd hn (by decide)
  · exact h0
theorem key_skip {r : Rec} (hu : usedB r = false) : (keyM r).n.size = 0 ∨ (keyM r).t = 41 := by
  by_cases hok : recOk r = true
  · right
    have h1 : keyM r = ⟨lowS r.n, r.t, r.c⟩ := by rw [keyM, if_pos hok]
    rw [h1]
    simp only [usedB, hok, Bool.true_and, decide_eq_false_iff_not, Decidable.not_not, ne_eq] at hu
    exact hu
  · left
    rw [keyM, if_neg hok]
    rfl

theorem map_blk {w : World} {k e : TypeId} {α : Type} {kv : α → Value} {b n : Nat} {f : α → Option Int} (h : MapAt w k e kv b n f) {G : Nat} {cs : Array Value} {ty : TypeId} (hB : Blk w G cs ty) : b ≠ G := by
  obtain ⟨D, ⟨es, clock, hb, _⟩, _⟩ := h
  rintro rfl
  unfold Blk at hB
  rw [hB] at hb
  simp at hb
theorem row_blk {w : World} {B : Nat} {e : TypeId} {c : Nat} {v : Value} {n : Nat} {xs : List Value} (h : w.ownsRow B e c v n xs) {G : Nat} {cs : Array Value} {ty : TypeId} (hB : Blk w G cs ty) (hne : e ≠ ty) : v.ownBlock ≠ some G := by
  intro hg
  rcases h.2 with ⟨rfl, _⟩ | ⟨a, cap, cur, rfl, _, h1, _⟩
  · simp [Value.ownBlock] at hg
  simp [Value.ownBlock] at hg
  subst hg
  unfold Blk at hB
  rw [hB] at h1
  simp at h1
  exact hne h1.2.symm
theorem Blk.grown {w w' : World} {G : Nat} {cs : Array Value} {ty : TypeId} (h : Blk w G cs ty) {row : Option Nat} (hg : w.grownBy w' row) (hne : row ≠ some G) : Blk w' G cs ty :=
  (hg.block G h.lt (fun e => hne e.symm)).trans h
theorem Keeps.grown {w wr w' : World} (k : Keeps w wr) {row : Option Nat} (hg : wr.grownBy w' row) (hB : ∀ g, row = some g → w.heap.size ≤ g) : Keeps w w' := Below.grown k hg k.size (fun g h => hB g h)
theorem SetsOwn.grown {w w' : World} {B : Nat} {v : Value} {ss : List (St × Value)} (h : SetsOwn w B v ss) {b : Nat} {k e : TypeId} {α : Type} {kv : α → Value} {n : Nat} {f : α → Option Int} (hm : MapAt w k e kv b n f) (hg : w.grownBy w' (some b)) : SetsOwn w' B v ss :=
  ⟨⟨World.ownsRow.kept h.row.1 hg (.inr (map_apart hm h.row.1).symm), h.row.2⟩, fun x hx => World.ownsRow.kept (h.ds x hx) hg (.inr (map_apart hm (h.ds x hx)).symm), h.apart⟩
/-- 'l = append(l, x)', x a struct of c cells: what has turned. -/
theorem wpList_appRg (ty sty : TypeId) (c bytes : Nat) (z : Value) (w : World) {ops : Array Oper} {rest : List Oper} {o : Oper} {a : Act} {Q : Exit → Act → World → Prop}
    (hu : Try.prog.underlying sty = some (.slice ty)) (hinfo : (Try.prog.info? ty).map (fun i => (i.zero, i.size, i.bytes)) = some (some z, c, bytes)) (hz : z.cells.size = c) (hc0 : 0 < c)
    (hgd : o.guard = none) (s x : Operand)
    (ho : o.op = .call { callee := .builtin .append, args := #[s, x], argTypes := #[sty, sty] })
    (B : Nat) (v : Value) (l : List (List Value)) (hs : a.eval s = v) (hown : OwnsR w B ty c v l) (ad : Addr) (cp : Nat) (b : List Value) (hx : a.eval x = .slice (some ad) 1 cp)
    (hb : b.length = c) (hone : ∀ u ∈ b, u.oneCell' = true)
    (hcell : ∀ j u, b[j]? = some u → w.cell? (ad.add j) = some u) (hlen : l.length + 1 ≤ maxLen) (hbytes : (l.length + 1) * bytes ≤ 140737488355328) (hB : B ≤ w.heap.size)
    (h : ∀ v' w', OwnsR w' B ty c v' (l ++ [b]) → w.grownBy w' v.ownBlock → wpList Try.prog ops Q rest (a.put o.dst v') w') : wpList Try.prog ops Q (o :: rest) a w := by
  obtain ⟨i0, hi, hz0, hz1, hz2⟩ := info_parts hinfo
  refine wpList_append_own w hgd s x sty ho B ty i0 z c bytes hu hi hz0 hz1 hz2 hz hc0 v l.length l.flatten hs hown.1 ad 1 cp b hx (by omega) hcell hone hlen hbytes hB ?_
  intro v' w' h2 h3 _
  refine h v' w' ⟨?_, ?_⟩ h3
  · rw [List.length_append, List.flatten_append]
    simpa using h2
  · intro r hr
    rw [List.mem_append] at hr
    rcases hr with hr | hr
    · exact hown.2 r hr
    · simp at hr; subst hr; exact hb
theorem lowD_len (k : Int) (d : List UInt8) : (Dt.lowD k d).length ≤ 65535 := by
  unfold Dt.lowD
  match h : Dt.wholeL k d with
  | none => simp
  | some x =>
    have h1 := (Dt.wholeL_join h).1
    have h2 := (Dt.whole_names h).2.2
    have h3 : (x.ns.map Nm.lowL).flatten.length = x.ns.flatten.length := by
      have : ∀ l : List (List UInt8), (l.map Nm.lowL).flatten.length = l.flatten.length := by
        intro l
        induction l with
        | nil => rfl
        | cons a l ih => rw [List.map_cons, List.flatten_cons, List.length_append, ih, List.flatten_cons, List.length_append]; simp [Nm.lowL]
      exact this _
    rw [← h1] at h2
    simp only [Dt.Pt.join, List.length_append] at h2
    simp only [List.length_append, h3]
    exact h2
theorem tyS_RR : (35 : TypeId) ≠ 29 := by decide
theorem tyS_M : (35 : TypeId) ≠ 53 := by decide
theorem tyS_Q : (35 : TypeId) ≠ 26 := by decide

theorem OwnsS.formS {w : World} {B : Nat} {v : Value} {l : List (List UInt8)} (h : OwnsS w B v l) : ∃ a cap, v = .slice a l.length cap := by
  rcases h.2 with ⟨rfl, hn⟩ | ⟨g, cap, cur, rfl, _⟩
  · exact ⟨none, 0, by rw [hn]⟩
  · exact ⟨_, cap, rfl⟩
theorem infoStr : (Try.prog.info? 9).map (fun i => (i.zero, i.size, i.bytes)) = some (some (.string ⟨#[]⟩), 1, 16) := by kernel_rfl
/-- 'l = append(l, x)', x a text, as one step of a region that draws; where the new slice lies. -/
theorem step_appSat {w : World} {ops : Array Oper} {o : Oper} {a : Act} {K : Act → World → Prop} {Q : Exit → Act → World → Prop} {E : Prop} (hgd : o.guard = none) (s x : Operand)
    (ho : o.op = .call { callee := .builtin .append, args := #[s, x], argTypes := #[33, 33] })
    (B : Nat) (v : Value) (l : List (List UInt8)) (hs : a.eval s = v) (hown : OwnsS w B v l) (ad : Addr) (c : Nat) (b : List UInt8) (hx : a.eval x = .slice (some ad) 1 c)
    (hcell : w.cell? ad = some (sv b)) (hlen : l.length + 1 ≤ 1099511627776) (hB : B ≤ w.heap.size)
    (h : ∀ v' w', OwnsS w' B v' (l ++ [b]) → w.grownBy w' v.ownBlock → (v'.ownBlock = v.ownBlock ∨ v'.ownBlock = some w.heap.size) → K (a.put o.dst v') w') :
    if Region.wanted o (yielded ops a.tmps) = true then Oper.wp Try.prog o a w K Q else E := by
  have hw : Region.wanted o (yielded ops a.tmps) = true := by simp [Region.wanted, hgd]
  rw [if_pos hw]
  obtain ⟨i0, hi, hz0, hz1, hz2⟩ := info_parts infoStr
  obtain ⟨v', w', hr, h2, h3, h4, h5⟩ := run_append_own_at (P := Try.prog) w B 33 o.type 9 i0 (.string ⟨#[]⟩) 1 16 Try.underlying33 hi hz0 hz1 hz2 rfl (by decide) v l.length (l.map sv) hown ad 1 c [sv b] rfl (by
    intro j u hu
    match j, hu with
    | 0, hu =>
      simp at hu
      subst hu
      have : ad.add 0 = ad := by simp [Addr.add]
      rw [this]
      exact hcell) (sv_oneCell [b]) (by unfold maxLen; omega) (by omega) hB
  unfold Oper.wp execOp
  simp only [ho, resolve, invoke, builtin, Sem.run_bind, Sem.run_pure, Result.andThen_ok, List.map_toArray, List.map_cons, List.map_nil, hs, hx, hr]
  refine h v' w' ?_ h3 h5
  unfold OwnsS
  rw [List.length_append, List.map_append]
  exact h2
theorem SetsOwn.cell3 {w w' : World} {B g cap n : Nat} {ss : List (St × Value)} (h : SetsOwn w B (.slice (some ⟨g, 0, none⟩) n cap) ss) (hn : ss.length = n) (i : Nat) (hi : i < ss.length) (hg : w.grownBy w' ss[i].2.ownBlock) : w'.cell? ⟨g, i * 5 + 3, none⟩ = some ss[i].2 ∧ w'.frozen? ⟨g, i * 5 + 3, none⟩ = false := by
  have hne : (Value.slice (some ⟨g, 0, none⟩) n cap).ownBlock ≠ ss[i].2.ownBlock := fun e => rows_apart (g := g) h.row.1 (h.ds _ (List.getElem_mem hi)) ty_apart rfl e.symm
  have row' : w'.ownsRow B 35 5 (.slice (some ⟨g, 0, none⟩) n cap) ss.length (ss.map stR).flatten := by
    have := World.ownsRow.kept h.row.1 hg (.inr hne)
    rw [List.length_map] at this
    exact this
  subst hn
  refine ⟨?_, World.ownsRow.frozenAt row' _⟩
  rw [World.ownsRow.cellAt row' (i * 5 + 3) (by have : (i + 1) * 5 ≤ ss.length * 5 := Nat.mul_le_mul_right _ hi; omega), flat_get _ h.row.2 i 3 (by rw [List.length_map]; exact hi) (by decide), List.getElem_map]
  rfl

set_option maxHeartbeats 4000000 in
set_option maxRecDepth 100000 in
theorem From_any (v : Value) (l : List Rec) (w : World) (hv : ReadRow w v 5 (l.map recL8)) (hl : l.length ≤ 1000000) (hf : ∀ x ∈ l, x.n.size ≤ maxLen ∧ x.d.size ≤ maxLen) :
    Calls Try.prog 14 #[v] w fun e w' => SetsEnd w (fromM l) e w' := by
  obtain ⟨a, cap, h1⟩ := hv.len
  rw [List.length_map] at h1
  subst h1
  have hmm := @run_makeMap Try.prog
  have HV := hide hv
  have HF := hide hf
  have P0 := hide ((MapAt.made w 26 3 qnV).alloc (.map #[] 0))
  have M0 := MapAt.made (w.alloc (.map #[] 0)) 53 3 memV
  rw [size_allocG] at M0
  replace M0 := hide M0
  have K0 := hide (((Keeps.refl w).alloc (.map #[] 0)).alloc (.map #[] 0))
  have hP : w.heap.size ≤ w.heap.size := Nat.le_refl _
  have hM : w.heap.size ≤ w.heap.size + 1 := Nat.le_succ _
  have hPM : w.heap.size ≠ w.heap.size + 1 := by omega
  clear hv hf
  go_enter Try.func14, Try.ntmps14
  go_upto_region 4 with fail
  generalize (w.alloc (.map #[] 0)).alloc (.map #[] 0) = W at *
  generalize hPe : w.heap.size = P at *
  generalize P + 1 = M at *
  have S0 : FromSt w l P M 0 (.slice none 0 0) W := ⟨[], _, _, rfl, Nat.le_refl _, by simp, SetsOwn.nil _ _, P0.out, PlOk.nil, M0.out, MbOk.nil, K0.out⟩
  clear P0 M0 K0 hmm
  go_wp2
  go_loopw [3, 19] (fun v i wr => FromRel w l P M v i wr) (fun _ i _ => l.length - (intOf i).toNat)
  case atStart => exact ⟨0, by omega, rfl, S0⟩
  case round =>
    clear S0
    obtain ⟨j, hj, rfl, hS⟩ := hrel
    by_cases hlt : j < l.length
    · have i2 : (j : Int) < (l.length : Int) := by omega
      have i0 : (0 : Int) ≤ (j : Int) := by omega
      have K : Keeps w wr := by obtain ⟨ss, f, g, _, _, _, _, _, _, _, _, K⟩ := hS; exact K
      have hv2 := HV.out.keeps K
      obtain ⟨b, off, rfl, _, _⟩ := hv2.parts (by rw [List.length_map]; omega)
      obtain ⟨c0, c1, c2, c3, c4⟩ := row5 hv2 hlt
      obtain ⟨fn, fd⟩ := HF.out _ (List.getElem_mem hlt)
      have HSk := hide (fun (v3 : Value) W (h : FromSt w l P M j v3 W) => h.skip hlt)
      have HSt := hide (from_step l j hlt)
      replace hS := hide hS
      generalize hoo : off + j * 5 = o at *
      generalize l[j] = r at *
      have HK := hide (fun W => Key_any r W fn fd)
      unfold recV qnV at HK
      have k1 := (Keeps.refl wr).alloc (.cells #[.string r.n, .int .i64 r.t, .int .i64 r.c, .int .i64 r.l, .string r.d] 29)
      have Br := hide (Blk.made wr #[.string r.n, .int .i64 r.t, .int .i64 r.c, .int .i64 r.l, .string r.d] 29)
      replace hS := hide (hS.out.keeps k1)
      clear hv2
      go_upto_region 7 with fail
      clear c0 c1 c2 c3 c4 k1 K
      generalize wr.alloc (.cells #[.string r.n, .int .i64 r.t, .int .i64 r.c, .int .i64 r.l, .string r.d] 29) = W1 at *
      generalize wr.heap.size = Gr at *
      obtain ⟨b0, b1, b2, b3, b4, _⟩ := Br.out.five_cells
      go_wp2_with fail
      refine (HK.out _).mono ?_
      rintro e w2 ⟨rfl, k1⟩
      replace hS := hide (hS.out.keeps k1)
      replace Br := hide (Br.out.keeps k1)
      clear k1 b0 b1 b2 b3 b4 HK
      go_upto_region 8 with fail
      have k1 := (Keeps.refl w2).alloc (.cells #[.string (keyM r).n, .int .i64 (keyM r).t, .int .i64 (keyM r).c] 26)
      have Bk := hide (Blk.made w2 #[.string (keyM r).n, .int .i64 (keyM r).t, .int .i64 (keyM r).c] 26)
      replace hS := hide (hS.out.keeps k1)
      replace Br := hide (Br.out.keeps k1)
      clear k1
      generalize w2.alloc (.cells #[.string (keyM r).n, .int .i64 (keyM r).t, .int .i64 (keyM r).c] 26) = W2 at *
      generalize w2.heap.size = Gk at *
      obtain ⟨⟨q0, q1, q2⟩, _, _⟩ := Bk.out.three
      cases hu : usedB r
      · have HE : Hid (FromSt w l P M (j + 1) _ W2) := HSk.out _ _ hS.out hu
        rcases key_skip hu with h0 | h0
        · have e0 : ((keyM r).n.toList == []) = true := by
            rw [toList_bl, List.length_eq_zero_iff.1 (show (bl (keyM r).n).length = 0 by rw [bl_length]; exact h0)]; rfl
          go_wp2_with fail
          go_roundw
          case rel => exact ⟨j + 1, by omega, by go_num, HE.out⟩
          case measure => simp [intOf]; omega
        · cases e0 : ((keyM r).n.toList == [])
          · go_wp2_with fail
            go_roundw
            case rel => exact ⟨j + 1, by omega, by go_num, HE.out⟩
            case measure => simp [intOf]; omega
          · go_wp2_with fail
            go_roundw
            case rel => exact ⟨j + 1, by omega, by go_num, HE.out⟩
            case measure => simp [intOf]; omega
      · obtain ⟨ku, kp, kt, kz, ka, kb⟩ := key_used hu
        obtain ⟨ss, f, g, h1, h2, h3, hO, hPl, hPo, hMm, hMo, K⟩ := hS.out
        have hkq := keyQ (keyM r) (by rw [ku]; unfold maxLen; simp only; omega) (by rw [ku]; simp only; omega) (by rw [ku]; simp only; omega)
        have e0 : ((keyM r).n.toList == []) = false := by
          rw [toList_bl, beq_eq_false_iff_ne]
          intro e
          have : (bl (keyM r).n).length = 0 := by rw [e]; rfl
          rw [bl_length, ku] at this
          simp only at this
          omega
        have hsz0 : ¬ (keyM r).n.size = 0 := by rw [ku]; simp only; omega
        have e0b : (keyM r).n.toList.isEmpty = false := by rw [isEmpty_size]; exact decide_eq_false hsz0
        have e0c : ¬ (keyM r).n.toList = [] := by rw [← List.isEmpty_iff, e0b]; simp
        have e1 : ((keyM r).t == 41) = false := by rw [beq_eq_false_iff_ne, ku]; exact kt
        have e1' : ¬ (keyM r).t = 41 := by rw [ku]; exact kt
        replace ku := hide ku
        replace hO := hide hO
        replace hPl := hide hPl
        replace hPo := hide hPo
        replace hMm := hide hMm
        replace hMo := hide hMo
        replace K := hide K
        have HQ := hide (show qnV (keyM r) = .agg #[.string (keyM r).n, .int .i64 (keyM r).t, .int .i64 (keyM r).c] from rfl)
        go_upto_if 40 with (at_lookup; refine wpList_look 48 26 3 _ rfl _ _ rfl lawQ Try.underlying48 Try.underlying3 zeroI qnV P j f rfl hPl.out (keyM r) rfl hkq ?_; intro c hc)
        have hcap : j ≤ 1000000 := by omega
        clear q0 q1 q2
        go_cut [3, 9, 10] from 20 to 99 (fun v a _ wx => MidRel w l P M j r Gr Gk v a wx)
        case first =>
          cases hfk : f (keyM r) with
          | some i =>
            obtain rfl := hc i hfk
            obtain ⟨k, hk, rfl, hkk⟩ := hPo.out.at_ _ _ hfk
            have hk' : k < ss.length := by simpa using hk
            have HM : MidRel w l P M j r Gr Gk u3 (.int .i64 (k : Int)) W2 := by
              refine ⟨k, rfl, by omega, ⟨ss, f, g, hk', ?_, by omega, h3, hO.out, hPl.out.mono (Nat.le_succ _), hPo.out, hMm.out, hMo.out, K.out⟩, Br.out, Bk.out⟩
              rw [HSt.out, stepM, hu, ← h1]
              simp only [if_true]
              rw [layM_hit (keyM r) r.l (lowR r) (ss.map (·.1)) k hk hkk]
              · simp
              · intro m hm hmk e
                have e1 := hPo.out.of_ m hm
                rw [e, hfk] at e1
                simp at e1
                omega
            clear hO hPl hPo hMm hMo K hS
            go_wp2
            go_meet
            exact HM
          | none =>
            obtain ⟨a3, cap3, he3⟩ := hO.out.len
            subst he3
            obtain ⟨⟨q0, q1, q2⟩, _, _⟩ := Bk.out.three
            go_wp2_with (at_mapUpdate; refine wpList_put 48 26 3 _ rfl _ _ _ rfl lawQ Try.underlying48 Try.underlying3 qnV qnV_inj P j f rfl hPl.out ?c0 (keyM r) rfl hkq (ss.length : Int) rfl ?c1 ?_)
            case c0 => unfold maxLen; omega
            case c1 => omega
            intro w4 hPl4 hg4
            have Br4 := hide (Br.out.grown hg4 (by intro e; exact map_blk hPl.out Br.out (Option.some.inj e)))
            have Bk4 := hide (Bk.out.grown hg4 (by intro e; exact map_blk hPl.out Bk.out (Option.some.inj e)))
            have K4 := hide (K.out.grown hg4 (fun g h => by cases h; omega))
            have O4 := hide (hO.out.grown hPl.out hg4)
            have M4 := hide (hMm.out.kept hg4 (by intro e; exact hPM (Option.some.inj e).symm))
            have hs4 : w.heap.size ≤ w4.heap.size := K4.out.size
            clear q0 q1 q2
            obtain ⟨⟨q0, q1, q2⟩, _, _⟩ := Bk4.out.three
            obtain ⟨b0, b1, b2, b3, b4, _⟩ := Br4.out.five_cells
            go_wp2_with (at_builtin; refine wpList_appRg 35 31 5 64 _ _ Try.underlying31 infoSet rfl (by decide) rfl _ _ rfl w.heap.size _ _ rfl (O4.out.row.alloc _) _ _ (stL ⟨keyM r, [], r.l⟩ (.slice none 0 0)) rfl rfl ?d0 ?d1 ?d2 ?d3 ?d4 ?_)
            case d0 => intro u hu; simp only [stL, List.mem_cons, List.not_mem_nil, or_false] at hu; rcases hu with rfl | rfl | rfl | rfl | rfl <;> rfl
            case d1 =>
              intro m u hm
              have := cells_box w4 #[.string (keyM r).n, .int .i64 (keyM r).t, .int .i64 (keyM r).c, .slice none 0 0, .int .i64 r.l] 35 m u hm
              simpa using this
            case d2 => rw [List.length_map]; unfold maxLen; omega
            case d3 => rw [List.length_map]; omega
            case d4 => simp; omega
            intro v5 w5 hown5 hg5
            rw [← hPe] at hown5
            have kA := (Keeps.refl w4).alloc (.cells #[.string (keyM r).n, .int .i64 (keyM r).t, .int .i64 (keyM r).c, .slice none 0 0, .int .i64 r.l] 35)
            have OA := O4.out.below kA
            have O5 := OA.push ⟨keyM r, [], r.l⟩ rfl hown5 hg5
            have hrw := fun g h => (World.ownsRow.lt OA.row.1 g h).1
            have HM : MidRel w l P M j r Gr Gk v5 (.int .i64 (ss.length : Int)) w5 := by
              refine ⟨ss.length, rfl, by omega, ⟨ss ++ [(⟨keyM r, [], r.l⟩, .slice none 0 0)], _, g, by simp, ?_, by simp; omega, ?_, O5, (hPl4.keeps kA).kept hg5 (map_apart (hPl4.keeps kA) OA.row.1), ?_, (M4.out.keeps kA).kept hg5 (map_apart (M4.out.keeps kA) OA.row.1), ?_, (K4.out.trans kA).grown hg5 hrw⟩, (Br4.out.keeps kA).grown hg5 (row_blk OA.row.1 (Br4.out.keeps kA) tyS_RR), (Bk4.out.keeps kA).grown hg5 (row_blk OA.row.1 (Bk4.out.keeps kA) tyS_Q)⟩
              · rw [HSt.out, stepM, hu, ← h1]
                simp only [if_true]
                rw [layM_miss (keyM r) r.l (lowR r) _ (hPo.out.miss hfk)]
                simp [addD]
              · intro x hx
                rw [List.mem_append, List.mem_singleton] at hx
                rcases hx with hx | rfl
                · exact h3 x hx
                · exact Nat.zero_le _
              · have := hPo.out.push hfk ⟨keyM r, [], r.l⟩ rfl
                rw [List.map_append]
                simpa using this
              · have := hMo.out.push ⟨keyM r, [], r.l⟩ rfl
                rw [List.map_append]
                exact this
            clear hO hPl hPo hMm hMo K hS O4 M4 K4 Br4 Bk4 hPl4 OA O5 hown5 hg5 kA
            go_wp2_with fail
            go_meet
            exact HM
        case rest =>
          obtain ⟨i, rfl, hi1, hMd, Br2, Bk2⟩ := hcut
          clear hO hPl hPo hMm hMo K hS Br Bk e0 e0b e0c e1 e1' hkq h1 h2 h3 hc
          obtain ⟨ss, f, g, hi, g1, g2, gd, hO, hPl, hPo, hMm, hMo, K⟩ := hMd
          obtain ⟨g3, cap3, he3, hg3a, hg3b⟩ := hO.shape (by omega)
          subst he3
          have j0 : (0 : Int) ≤ (i : Int) := by omega
          have j1 : (i : Int) < (ss.length : Int) := by omega
          have cT := hO.cell rfl i 4 hi (by decide)
          have cD := hO.cell rfl i 3 hi (by decide)
          have cF := hO.frozen rfl (i * 5 + 4)
          have HT4 := hide (hO.ttl rfl i hi (min ss[i].1.ttl r.l))
          have HG4 := hide (hO.stored rfl i 4 hi (by decide) (.int .i64 (min ss[i].1.ttl r.l))).2
          simp only [stR, stL, List.getElem?_cons_succ, List.getElem?_cons_zero] at cT cD
          obtain ⟨b0, b1, b2, b3, b4, hrlt⟩ := Br2.five_cells
          have hgr : g3 ≠ Gr := fun e => row_blk hO.row.1 Br2 tyS_RR (by rw [e]; rfl)
          replace hO := hide hO
          replace hPl := hide hPl
          replace hPo := hide hPo
          replace hMm := hide hMm
          replace hMo := hide hMo
          replace K := hide K
          replace Br2 := hide Br2
          replace Bk2 := hide Bk2
          replace g1 := hide g1
          generalize hoo3 : i * 5 = o3 at *
          generalize hS1 : ss[i] = s1 at *
          go_upto_region 15 with fail
          go_region
          have kd := (Keeps.refl (wc.setCell ⟨g3, o3 + 4, none⟩ (.int .i64 (min s1.1.ttl r.l)))).drew
          have hnr : ∀ x, some x = some g3 → w.heap.size ≤ x := fun x h => by cases h; exact hg3a
          have Br6 := hide ((Br2.out.grown HG4.out (by intro e; exact hgr (Option.some.inj e))).keeps kd)
          have K6 := hide ((K.out.grown HG4.out (fun x h => hnr x h.symm)).trans kd)
          have P6 := hide ((hPl.out.kept HG4.out (map_apart hPl.out hO.out.row.1)).keeps kd)
          have M6 := hide ((hMm.out.kept HG4.out (map_apart hMm.out hO.out.row.1)).keeps kd)
          replace HT4 := hide (HT4.out.below kd)
          clear kd hO hPl hMm K Br2 Bk2 HG4 cT cD cF b0 b1 b2 b3 b4
          generalize (wc.setCell ⟨g3, o3 + 4, none⟩ (.int .i64 (min s1.1.ttl r.l))).drew = W6 at *
          obtain ⟨ss2, hss2⟩ : ∃ x, x = ss.set i (⟨s1.1.key, s1.1.ds, min s1.1.ttl r.l⟩, s1.2) := ⟨_, rfl⟩
          rw [← hss2] at HT4
          have l2 : ss2.length = ss.length := by rw [hss2, List.length_set]
          have hi2 : i < ss2.length := by omega
          have e2 : ss2[i] = (⟨s1.1.key, s1.1.ds, min s1.1.ttl r.l⟩, s1.2) := by simp [hss2]
          have m2 : ss2.map (·.1) = (ss.map (·.1)).set i ⟨s1.1.key, s1.1.ds, min s1.1.ttl r.l⟩ := by rw [hss2, List.map_set]
          have hi0 : i < (ss.map (·.1)).length := by rw [List.length_map]; exact hi
          have hk0 : (ss.map (·.1))[i] = s1.1 := by rw [List.getElem_map, hS1]
          have Po2 : PlOk f (ss2.map (·.1)) := by rw [m2]; exact hPo.out.set i _ hi0 (by rw [hk0])
          have Mo2 : MbOk g (ss2.map (·.1)) := by rw [m2]; exact hMo.out.same i _ hi0 (by rw [hk0])
          have d2 : ∀ x ∈ ss2, x.1.ds.length ≤ j := by
            intro x hx
            rw [hss2] at hx
            rcases List.mem_or_eq_of_mem_set hx with hx | rfl
            · exact gd x hx
            · have := gd _ (List.getElem_mem hi)
              rw [hS1] at this
              exact this
          have g12 : Hid (fromM (l.take (j + 1)) = (ss2.map (·.1)).set i ⟨s1.1.key, addD s1.1.ds (lowR r), min s1.1.ttl r.l⟩) := by
            rw [Hid, m2, List.set_set]; exact g1.out
          replace Po2 := hide Po2
          replace Mo2 := hide Mo2
          clear hPo hMo g1 m2 hss2 hi0 hk0
          have HL := hide (fun W => dlow_any r.t r.d W fd)
          have hlr : Hid (Dt.lowD r.t (bl r.d) = lowR r) := rfl
          rw [hlr.out] at HL
          obtain ⟨b0, b1, b2, b3, b4, hrlt⟩ := Br6.out.five_cells
          go_wp2_with fail
          refine (HL.out _).mono ?_
          rintro e w7 ⟨rfl, k1⟩
          replace Br6 := hide (Br6.out.keeps k1)
          replace K6 := hide (K6.out.trans k1)
          replace P6 := hide (P6.out.keeps k1)
          replace M6 := hide (M6.out.keeps k1)
          replace HT4 := hide (HT4.out.below k1)
          clear k1 b0 b1 b2 b3 b4 HL
          go_upto_region 17 with fail
          have k1 := (Keeps.refl w7).alloc (.cells #[.int .i64 (i : Int), .string ⟨(lowR r).toArray⟩] 53)
          have Bm := hide (Blk.made w7 #[.int .i64 (i : Int), .string ⟨(lowR r).toArray⟩] 53)
          replace K6 := hide (K6.out.trans k1)
          replace P6 := hide (P6.out.keeps k1)
          replace M6 := hide (M6.out.keeps k1)
          replace HT4 := hide (HT4.out.below k1)
          have hlen := lowD_len r.t (bl r.d)
          rw [hlr.out] at hlen
          have hkm := keyMem ((i : Int), lowR r) (by unfold maxLen; simp only; omega) (by simp only; omega)
          clear k1 Br6 hrlt
          generalize w7.alloc (.cells #[.int .i64 (i : Int), .string ⟨(lowR r).toArray⟩] 53) = W7 at *
          generalize w7.heap.size = Gm at *
          have q0 := Bm.out.cell 0
          have q1 := Bm.out.cell 1
          simp only [List.getElem?_toArray, List.getElem?_cons_zero, List.getElem?_cons_succ] at q0 q1
          go_upto_if 80 with (at_lookup; refine wpList_look 49 53 3 _ rfl _ _ rfl lawM Try.underlying49 Try.underlying3 zeroI memV M j g rfl M6.out ((i : Int), lowR r) rfl hkm ?_; intro c hc)
          have HMi := hide (Mo2.out i (lowR r))
          cases hgt : g ((i : Int), lowR r) with
          | none =>
            have hin : lowR r ∉ s1.1.ds := fun h6 => by
              have h7 := HMi.out.2 ⟨by rw [List.length_map]; exact hi2, by rw [List.getElem_map, e2]; exact h6⟩
              rw [hgt] at h7
              cases h7
            have cD := HT4.out.cell l2 i 3 hi2 (by decide)
            have cF := HT4.out.frozen l2 (i * 5 + 3)
            have HDs := hide (HT4.out.ds _ (List.getElem_mem hi2))
            rw [e2] at cD HDs
            simp only [stR, stL, List.getElem?_cons_succ, List.getElem?_cons_zero] at cD HDs
            obtain ⟨a7, cap7, hs7⟩ := (show ∃ a c, s1.2 = .slice a s1.1.ds.length c by
              rcases HDs.out.2 with ⟨e, hn⟩ | ⟨gg, cp, cur, e, _⟩
              · exact ⟨none, 0, by rw [e, hn]⟩
              · exact ⟨_, cp, e⟩)
            have hdl : s1.1.ds.length ≤ j := by
              have := d2 _ (List.getElem_mem hi2)
              rw [e2] at this
              exact this
            obtain ⟨w8, hrun, M8, hg8⟩ := (M6.out.drew).update 49 lawM Try.underlying49 Try.underlying3 memV_inj (by unfold maxLen; omega) ((i : Int), lowR r) hkm (s1.1.ds.length : Int) (by omega)
            simp only [memV, sv] at hrun
            rw [hoo3] at cD cF
            rw [hs7] at cD
            go_wp2_with fail
            go_region
            have kd := (Keeps.refl W7).drew
            have O8 := hide ((HT4.out.below kd).grown M6.out.drew hg8)
            have P8 := hide (P6.out.drew.kept hg8 (by intro e; exact hPM (Option.some.inj e)))
            have K8 := hide ((K6.out.trans kd).grown hg8 (fun x h => by cases h; omega))
            have Bm8 := hide (Bm.out.drew.grown hg8 (by intro e; exact map_blk M6.out.drew Bm.out.drew (Option.some.inj e)))
            clear cD cF q0 q1 HT4 P6 M6 K6 Bm HDs hrun kd
            have cD := O8.out.cell l2 i 3 hi2 (by decide)
            have cF := O8.out.frozen l2 (i * 5 + 3)
            have HDs := hide (O8.out.ds _ (List.getElem_mem hi2))
            rw [e2] at cD HDs
            simp only [stR, stL, List.getElem?_cons_succ, List.getElem?_cons_zero] at cD HDs
            rw [hoo3] at cD cF
            rw [hs7] at cD
            have q1 := Bm8.out.cell 1
            simp only [List.getElem?_toArray, List.getElem?_cons_zero, List.getElem?_cons_succ] at q1
            have kX := ((Keeps.refl w8).alloc (.cells #[.string ⟨(lowR r).toArray⟩] 9)).drew
            have HX := hide (HDs.out.below kX)
            have HC9 : Hid (((w8.alloc (.cells #[.string ⟨(lowR r).toArray⟩] 9)).drew).cell? ⟨w8.heap.size, 0, none⟩ = some (sv (lowR r))) := (Blk.made w8 #[.string ⟨(lowR r).toArray⟩] 9).drew.cell 0
            have HS9 := hide (fun w' hg => (O8.out.below kX).cell3 (w' := w') l2 i hi2 hg)
            rw [e2] at HS9
            simp only at HS9
            rw [hoo3] at HS9
            have hB9 : w.heap.size ≤ ((w8.alloc (.cells #[.string ⟨(lowR r).toArray⟩] 9)).drew).heap.size := Nat.le_trans K8.out.size kX.size
            have hl9 : s1.1.ds.length + 1 ≤ 1099511627776 := by omega
            rw [hs7] at HX HS9
            have HD9 := hide (fun v' w' ho hg hat => (O8.out.below kX).data (w' := w') l2 i hi2 v' (lowR r) ho hg hat)
            rw [e2] at HD9
            simp only at HD9
            rw [hoo3, hs7] at HD9
            have hPg : P ≠ g3 := fun e => map_apart P8.out O8.out.row.1 (by rw [e]; rfl)
            have hMg : M ≠ g3 := fun e => map_apart M8 O8.out.row.1 (by rw [e]; rfl)
            have hi3 : i < (ss2.map (·.1)).length := by rw [List.length_map]; exact hi2
            have hk3 : (ss2.map (·.1))[i] = ⟨s1.1.key, s1.1.ds, min s1.1.ttl r.l⟩ := by rw [List.getElem_map, e2]
            have FIN : Hid (∀ v' w', OwnsS w' w.heap.size v' (s1.1.ds ++ [lowR r]) → ((w8.alloc (.cells #[.string ⟨(lowR r).toArray⟩] 9)).drew).grownBy w' (Value.slice a7 s1.1.ds.length cap7).ownBlock → (v'.ownBlock = (Value.slice a7 s1.1.ds.length cap7).ownBlock ∨ v'.ownBlock = some ((w8.alloc (.cells #[.string ⟨(lowR r).toArray⟩] 9)).drew).heap.size) →
                FromSt w l P M (j + 1) (.slice (some ⟨g3, 0, none⟩) ss.length cap3) (w'.setCell ⟨g3, o3 + 3, none⟩ v')) := fun v' w' ho hg hat => by
              have hO9 := HD9.out v' w' ho hg hat
              have hrb := fun x h => (World.ownsRow.lt HX.out x h).1
              refine ⟨_, f, _, ?_, ?_, ?_, hO9, ((P8.out.keeps kX).kept hg (map_apart (P8.out.keeps kX) HX.out)).setCell (a := ⟨g3, o3 + 3, none⟩) hPg _, ?_, ((M8.keeps kX).kept hg (map_apart (M8.keeps kX) HX.out)).setCell (a := ⟨g3, o3 + 3, none⟩) hMg _, ?_, Below.setCell ((K8.out.trans kX).grown hg hrb) (p := ⟨g3, o3 + 3, none⟩) hg3a _⟩
              · rw [g12.out, List.map_set, addD, if_neg hin]
              · rw [List.length_set]; omega
              · intro x hx
                rcases List.mem_or_eq_of_mem_set hx with hx | rfl
                · exact Nat.le_succ_of_le (d2 x hx)
                · simp only [List.length_append, List.length_cons, List.length_nil]; omega
              · rw [List.map_set]
                exact Po2.out.set i _ hi3 (by rw [hk3])
              · rw [List.map_set]
                exact Mo2.out.add i _ hi3 (lowR r) _ (by rw [hk3])
            clear hgt
            have hnn := World.new_ne w8 _ cD
            have cDX : (w8.alloc (.cells #[.string ⟨(lowR r).toArray⟩] 9)).cell? ⟨g3, o3 + 3, none⟩ = some (.slice a7 s1.1.ds.length cap7) := (Below.cell ((Keeps.refl w8).alloc (.cells #[.string ⟨(lowR r).toArray⟩] 9)) (World.block_lt_of_cell? w8 _ cD)).trans cD
            clear HD9 O8 P8 K8 M8 Po2 Mo2 g12 hg8 HDs Bm8 HMi hc
            go_wp2_with fail
            go_region_law (refine step_appSat rfl _ _ rfl w.heap.size (.slice a7 s1.1.ds.length cap7) _ rfl HX.out _ _ (lowR r) rfl HC9.out hl9 hB9 ?_; intro v9 w9 h9 g9 a9; obtain ⟨z1, z2⟩ := HS9.out w9 g9; obtain ⟨x9, y9, rfl⟩ := h9.formS)
            all_goals
              have HE := FIN.out _ _ h9 g9 a9
              simp only [List.length_append, List.length_cons, List.length_nil, Nat.zero_add] at HE
              clear FIN HX HC9 HS9 h9 g9 a9 z1 z2 cD cF cDX q1 kX
              go_wp2
              go_roundw
              case rel => exact ⟨j + 1, by omega, by go_num, HE⟩
              case measure => simp [intOf]; omega
          | some c0 =>
            have hin : lowR r ∈ s1.1.ds := by
              obtain ⟨h5, h6⟩ := HMi.out.1 (by rw [hgt]; rfl)
              rw [List.getElem_map, e2] at h6
              exact h6
            have HE : FromSt w l P M (j + 1) (.slice (some ⟨g3, 0, none⟩) ss.length cap3) W7 := by
              refine ⟨ss2, f, g, ?_, by omega, fun x hx => Nat.le_succ_of_le (d2 x hx), HT4.out, P6.out, Po2.out, M6.out.mono (Nat.le_succ _), Mo2.out, K6.out⟩
              rw [g12.out, addD, if_pos hin]
              have : (ss2.map (·.1)).set i ⟨s1.1.key, s1.1.ds, min s1.1.ttl r.l⟩ = ss2.map (·.1) := by
                have e3 : (ss2.map (·.1))[i]'(by rw [List.length_map]; exact hi2) = ⟨s1.1.key, s1.1.ds, min s1.1.ttl r.l⟩ := by rw [List.getElem_map, e2]
                rw [← e3, List.set_getElem_self]
              exact this.symm
            clear HT4 P6 M6 Po2 Mo2 K6 Bm
            go_wp2
            go_roundw
            case rel => exact ⟨j + 1, by omega, by go_num, HE⟩
            case measure => simp [intOf]; omega
    · obtain rfl : j = l.length := by omega
      obtain ⟨ss, f, g, e1, _, _, hO, _, _, _, _, K⟩ := hS
      rw [List.take_length] at e1
      have HR := hide (e1 ▸ hO.read)
      clear hO
      go_wp2
      go_ret
      exact SetsEnd.mk HR.out K
end Go.Proofs.Ytdfhojhljfcolaa
