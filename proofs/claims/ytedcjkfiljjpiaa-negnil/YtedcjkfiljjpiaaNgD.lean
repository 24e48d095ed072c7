/- What is not there: a name is dropped. No condition but lengths. -/
import Derived.Test.YtedcjkfiljjpiaaNgR
import Derived.Test.YtedcjkfiljjpiaaRangeV
import Derived.Deep.RegionLaw
namespace Go.Proofs.Ytedcjkfiljjpiaa
open Go.RowKit

/-- What is kept yet, on the way. -/
def drK (l : List Qn) (name : ByteArray) (lf : Qn → Bool) : List Qn := l.filter (fun k => decide (k.n ≠ name) || lf k)
def drF (f : Qn → Option Value) (name : ByteArray) (lf : Qn → Bool) (k : Qn) : Option Value := if k.n = name ∧ lf k = false then none else f k
theorem drK_other {l : List Qn} {name : ByteArray} {lf : Qn → Bool} {q : Qn} (h : ¬ q.n = name) : drK l name (fun z => lf z && !decide (z = q)) = drK l name lf := by
  unfold drK
  apply List.filter_congr
  intro k _
  by_cases hk : k.n = name
  · have : ¬ k = q := fun e => h (e ▸ hk)
    simp [hk, this]
  · simp [hk]
theorem drF_other {f : Qn → Option Value} {name : ByteArray} {lf : Qn → Bool} {q : Qn} (h : ¬ q.n = name) : drF f name (fun z => lf z && !decide (z = q)) = drF f name lf := by
  funext k
  unfold drF
  by_cases hk : k.n = name
  · have : ¬ k = q := fun e => h (e ▸ hk)
    simp [hk, this]
  · simp [hk]
theorem drK_drop {l : List Qn} {name : ByteArray} {lf : Qn → Bool} {q : Qn} (h : q.n = name) : drK l name (fun z => lf z && !decide (z = q)) = Lr.drop (drK l name lf) q := by
  unfold drK Lr.drop
  rw [List.filter_filter]
  apply List.filter_congr
  intro k _
  by_cases hk : k = q
  · subst hk; simp [h]
  · simp [hk]
theorem drF_drop {f : Qn → Option Value} {name : ByteArray} {lf : Qn → Bool} {q : Qn} (h : q.n = name) : drF f name (fun z => lf z && !decide (z = q)) = fun k => if k = q then none else drF f name lf k := by
  funext k
  unfold drF
  by_cases hk : k = q
  · subst hk; simp [h]
  · simp [hk]
theorem lrdrop_len {l : List Qn} {q : Qn} (hn : l.Nodup) (hm : q ∈ l) : (Lr.drop l q).length + 1 = l.length := by
  induction l with
  | nil => cases hm
  | cons a l ih =>
    unfold Lr.drop at ih ⊢
    rw [List.nodup_cons] at hn
    by_cases e : a = q
    · subst e
      have : l.filter (fun x => decide (x ≠ a)) = l := by
        rw [List.filter_eq_self]
        intro x hx
        simp only [ne_eq, decide_not, Bool.not_eq_eq_eq_not, Bool.not_true, decide_eq_false_iff_not]
        intro e
        exact hn.1 (e ▸ hx)
      rw [List.filter_cons_of_neg (by simp), this]
      rfl
    · rcases List.mem_cons.1 hm with h | h
      · exact absurd h.symm e
      · have := ih hn.2 h
        simp only [List.filter_cons, ne_eq, e, not_false_eq_true, decide_true, if_true, List.length_cons]
        simp only [ne_eq] at this
        omega
theorem drK_len {l : List Qn} {name : ByteArray} {lf : Qn → Bool} : (drK l name lf).length ≤ l.length := List.length_filter_le _ _
/-- The iterator's block turns: rows stay. -/
theorem RangeV.row {w w' : World} {b r n : Nat} {f : Qn → Option Value} {lf : Qn → Bool} {cnt : Nat} (h : RangeV w b r n f lf cnt) {v : Value} {l : List Qn} (hr : ReadRow w v 3 (l.map qnL)) (hs : w.heap.size ≤ w'.heap.size) (hg : ∀ k, k < w.heap.size → k ≠ r → w'.heap[k]? = w.heap[k]?) : ReadRow w' v 3 (l.map qnL) := by
  obtain ⟨D, left, ⟨es, clock, since, seen, c0, hb, F, hsz, hD, hit, rest⟩, h2, h3⟩ := h
  obtain ⟨a, cap, h1, hle, h4⟩ := hr
  refine ⟨a, cap, h1, hle, fun hp => ?_⟩
  obtain ⟨g, off, rfl, hlt, hc⟩ := h4 hp
  have hne : g ≠ r := by
    intro e
    subst e
    have h0 := hc 0 hp 0 (by omega)
    rw [List.length_map] at hp
    rw [List.getElem_map] at h0
    rw [show (qnL l[0])[0]? = some (.string l[0].n) from rfl] at h0
    simp [World.cell?, hit] at h0
  exact ⟨g, off, rfl, by omega, fun i hi j hj => by rw [World.cell?_of_block (w := w) (hg g hlt hne)]; exact hc i hi j hj⟩

set_option maxHeartbeats 4000000 in
set_option maxRecDepth 100000 in
theorem DropN_nil (name : ByteArray) (w : World) : Calls Try.prog 21 #[.pointer none, .string name] w fun e w' => e = .returned (.int .i64 0) ∧ w' = w := by
  go_enter Try.func21, Try.ntmps21
  go_wp2_with fail
  refine (isMadeN_nil _).mono ?_
  rintro e w1 ⟨rfl, rfl⟩
  go_wp2
  go_ret
  exact ⟨rfl, rfl⟩
def DropNEnd (w : World) (p m : Nat) (c : Nat) (s' : Ngs) (e : Ending) (w' : World) : Prop := e = .returned (.int .i64 c) ∧ NAt w' p m s' ∧ KB p m w w'
/-- How far those of the name have been dropped. -/
def DrRel (w : World) (p m r n : Nat) (s : Ngs) (name : ByteArray) (f : Qn → Option Value) (d : Value) (wr : World) : Prop :=
  ∃ (lf : Qn → Bool) (cnt : Nat) (v : Value), d = .int .i64 (((Ng.keys s).length - (drK (Ng.keys s) name lf).length : Nat) : Int) ∧ Hid (Blk wr p #[.int .i64 s.room, .map (some m), v, .int .i64 s.changes] 71) ∧ Hid (ReadRow wr v 3 ((drK (Ng.keys s) name lf).map qnL)) ∧ Hid (Apart v p m) ∧ Hid (RangeV wr m r n (drF f name lf) lf cnt) ∧ Hid (∀ q, QnFine q → lf q = true → q ∈ Ng.keys s) ∧ Hid (KB p m w wr)
theorem grown_kb {w wr w1 : World} {p m r : Nat} (h : KB p m w wr) (g : wr.grownBy w1 (some r)) (hr : w.heap.size ≤ r) : KB p m w w1 :=
  ⟨g.os.trans h.os, g.tape.trans h.tape, g.output.trans h.output, Nat.le_trans h.size g.size, fun k hk h1 h2 => (g.block k (Nat.lt_of_lt_of_le hk h.size) (by simp; omega)).trans (h.block k hk h1 h2)⟩

set_option maxHeartbeats 16000000 in
set_option maxRecDepth 100000 in
theorem DropN_any (p m : Nat) (s : Ngs) (name : ByteArray) (w : World) (h : NAt w p m s) (hch : s.changes ≤ 1099511627776) :
    Calls Try.prog 21 #[.pointer (some ⟨p, 0, none⟩), .string name] w fun e w' => DropNEnd w p m (Ng.gone s name) (Ng.drop s name) e w' := by
  have hS := hide h
  have HMD := hide (isMadeN_any p m s w h)
  obtain ⟨h1, h2, v, n, f, h3, h4, h5, h6, h7, h8⟩ := h
  have hks := keysN_small h2
  have hplt := h3.lt
  have hmlt := h6.lt
  have hnd := hide h2.nodup
  have hqf : Hid (∀ q ∈ Ng.keys s, QnFine q) := fun q hq => by
    obtain ⟨i, hi, rfl⟩ := List.mem_map.1 hq
    exact (h2.fine i hi).1
  have hfk : Hid (∀ q, (f q).isSome = true ↔ q ∈ Ng.keys s) := fun q => by
    have h9 := h8 q
    cases hfd : Ng.find s.items q with
    | none =>
      rw [hfd] at h9
      rw [show f q = none from h9]
      have := Ng.find_none.1 hfd
      simp only [Option.isSome_none, Bool.false_eq_true, false_iff]
      exact this
    | some i =>
      rw [hfd] at h9
      obtain ⟨vd, hv1, _⟩ := h9
      rw [hv1]
      have := Ng.find_key hfd
      simp only [Option.isSome_some, true_iff]
      exact List.mem_map.2 ⟨i, this.1, this.2⟩
  have HF8 := hide h8
  have hh2 := hide h2
  have hneq := hide h1
  have h77 := hide h7
  have HEND : Hid (∀ (W : World) (lf : Qn → Bool) (cnt : Nat) (v : Value) (r : Nat), (∀ q, QnFine q → lf q = false) → ∀ (c : Int), c = (if 0 < Ng.gone s name then s.changes + 1 else s.changes) → Blk W p #[.int .i64 s.room, .map (some m), v, .int .i64 c] 71 → ReadRow W v 3 ((drK (Ng.keys s) name lf).map qnL) → Apart v p m → MapV W 32 qnV m n (drF f name lf) → KB p m w W → NAt W p m (Ng.drop s name)) := by
    intro W lf cnt v r hlf c hc hb hrow hap hmap hkb
    have hkk : drK (Ng.keys s) name lf = Ng.keys (Ng.drop s name) := by
      show drK (Ng.keys s) name lf = Ng.keysL (Ng.dropL s.items name)
      rw [Ng.dropL_keys]
      unfold drK
      apply List.filter_congr
      intro k hk
      rw [hlf k (hqf.out k hk), Bool.or_false]
    subst hc
    refine ⟨h1, Ng.drop_ok name h2, v, n, _, hb, ?_, hap, hmap, ?_, fun q => ?_⟩
    · rw [← hkk]; exact hrow
    · show (n : Int) ≤ (if 0 < Ng.gone s name then s.changes + 1 else s.changes)
      split <;> omega
    · show NFOk W p m (Ng.find (Ng.dropL s.items name) q) _
      rw [Ng.find_dropL]
      unfold drF
      by_cases hq : q.n = name
      · rw [if_pos hq]
        by_cases hl : lf q = false
        · rw [if_pos ⟨hq, hl⟩]; rfl
        · rw [if_neg (fun h => hl h.2)]
          have : (f q).isSome = false := by
            cases hs : (f q).isSome
            · rfl
            · exact absurd (hlf q (hqf.out q ((hfk.out q).1 hs))) hl
          show f q = none
          simpa using this
      · rw [if_neg hq, if_neg (fun h => hq h.1)]
        exact (h8 q).kb hkb
  have HGN : Hid (∀ lf : Qn → Bool, (∀ q, QnFine q → lf q = false) → (Ng.keys s).length - (drK (Ng.keys s) name lf).length = Ng.gone s name) := fun lf hlf => by
    have hkk : drK (Ng.keys s) name lf = Ng.keysL (Ng.dropL s.items name) := by
      rw [Ng.dropL_keys]
      unfold drK
      apply List.filter_congr
      intro k hk
      rw [hlf k (hqf.out k hk), Bool.or_false]
    rw [hkk, Ng.keysL_len]
    show (Ng.keysL s.items).length - _ = _
    rw [Ng.keysL_len]
    rfl
  have B := hide h3
  have RW := hide h4
  have AP := hide h5
  have MP := hide h6
  have hgl : Ng.gone s name ≤ (Ng.keys s).length := by show s.items.length - _ ≤ (Ng.keysL s.items).length; rw [Ng.keysL_len]; omega
  have hglh := hide hgl
  obtain ⟨⟨_, m1, _, _⟩, _, _⟩ := h3.four_cells
  clear h1 h2 h3 h4 h5 h6 h7 h8 hgl
  have hcc := hide hh2.out.count
  generalize Ng.gone s name = GN at *
  generalize Ng.drop s name = SD at *
  go_enter Try.func21, Try.ntmps21
  go_wp2_with fail
  refine (HMD.out).mono ?_
  rintro e w1 ⟨rfl, rfl⟩
  go_wp2_with (at_range; refine wpList_range_V rfl _ 69 48 rfl Try.underlying69 m n f rfl MP.out ?_; intro w0 cnt0 R0 g0 s0)
  go_frame
  have hr : Hid (w1.heap.size ≤ w1.heap.size) := Nat.le_refl _
  have B0 := hide (show Blk w0 p _ _ from (g0.block p hplt (by simp)).trans B.out)
  have KB0 : Hid (KB p m w1 w0) := ⟨g0.os, g0.tape, g0.output, g0.size, fun k hk _ _ => g0.block k hk (by simp)⟩
  have RW0 := hide (RW.out.kb AP.out KB0.out)
  have hK0 : Hid (drK (Ng.keys s) name (fun q => (f q).isSome) = Ng.keys s) := by
    unfold drK
    rw [Hid, List.filter_eq_self]
    intro k hk
    show (decide (k.n ≠ name) || (f k).isSome) = true
    rw [(hfk.out k).2 hk, Bool.or_true]
  have hF0 : Hid (drF f name (fun q => (f q).isSome) = f) := by
    rw [Hid]
    funext k
    unfold drF
    split
    · rename_i hh
      have h0 : (f k).isSome = false := hh.2
      cases hf : f k with
      | none => rfl
      | some v => rw [hf] at h0; cases h0
    · rfl
  replace R0 := hide R0
  clear g0 s0 m1 HMD B RW MP
  generalize hRR : w1.heap.size = r at *
  replace hRR := hide hRR
  go_loopw [5] (fun d wr => DrRel w1 p m r n s name f d wr) (fun _ wr => wr.rangeLeft m r)
  case atStart => exact ⟨_, cnt0, v, by rw [hK0.out, Nat.sub_self]; rfl, B0, by rw [hK0.out]; exact RW0, AP, by rw [hF0.out]; exact R0, hide (fun q _ hq => (hfk.out q).1 hq), KB0⟩
  case round =>
    clear B0 RW0 R0 KB0 hK0 hF0
    obtain ⟨lf, cnt, v1, rfl, B, RW, AP1, R, HLF, KBX⟩ := hrel
    have hpr : Hid (p ≠ r ∧ m ≠ r ∧ w1.heap.size ≤ r) := by have := hRR.out; rw [Hid]; omega
    have hDN1 : (Ng.keys s).length - (drK (Ng.keys s) name lf).length ≤ 1000 := by omega
    go_wp2_with (at_next; refine wpList_next_V rfl _ rfl m r n _ lf cnt rfl R.out ?_ ?_)
    · intro hl0
      rw [HGN.out lf hl0]
      by_cases hg : 0 < GN
      · have hgi : (0 : Int) < (GN : Int) := by omega
        obtain ⟨⟨_, _, _, p3⟩, ⟨_, _, _, pf3⟩, _⟩ := B.out.four_cells
        have hw1 : IntKind.i64.wrap (s.changes + 1) = s.changes + 1 := by rw [IntKind.wrap_i64]; have := hcc.out; omega
        go_wp2_with fail
        have S9 : Blk (wr.setCell ⟨p, 3, none⟩ (.int .i64 (s.changes + 1))) p #[.int .i64 s.room, .map (some m), v1, .int .i64 (s.changes + 1)] 71 := by have := B.out.set 3 (.int .i64 (s.changes + 1)); simpa using this
        have KB9 := KBX.out.trans (KB.setP (m := m) wr 3 (.int .i64 (s.changes + 1)))
        have hEND := hide (HEND.out _ lf cnt v1 r hl0 (s.changes + 1) (by rw [if_pos hg]) S9 (RW.out.setOther (x := ⟨p, 3, none⟩) (fun a k cp e => (AP1.out a k cp e).1) _) AP1.out (R.out.map.same (Below.heap_setCell _ _ _ _ (fun e => hneq.out e.symm))) KB9)
        replace KB9 := hide KB9
        clear S9
        generalize wr.setCell ⟨p, 3, none⟩ (.int .i64 (s.changes + 1)) = W9 at *
        go_ret
        exact ⟨rfl, hEND.out, KB9.out⟩
      · have hgi : ¬ (0 : Int) < (GN : Int) := by omega
        have hEND := hide (HEND.out _ lf cnt v1 r hl0 s.changes (by rw [if_neg hg]) B.out RW.out AP1.out R.out.map KBX.out)
        go_wp2
        go_ret
        exact ⟨rfl, hEND.out, KBX.out⟩
    · intro q c w2 cnt2 hq hlq R2 hlt2 g2 hs2 hen
      have hqq := hide hq
      have hmem := hide (HLF.out q hq hlq)
      have hmA : Hid (q ∈ drK (Ng.keys s) name lf) := by
        unfold drK
        rw [Hid, List.mem_filter]
        exact ⟨hmem.out, by rw [hlq, Bool.or_true]⟩
      have hcn : Hid (wr.rangeLeft m r = cnt ∧ cnt2 < cnt) := ⟨R.out.left_eq, hlt2⟩
      have B2 := hide (show Blk w2 p _ _ from (g2.block p B.out.lt (by simp; exact hpr.out.1)).trans B.out)
      have RW2 := hide (R.out.row RW.out g2.size (fun k hk hne => g2.block k hk (by simp; exact hne)))
      have KB2 := hide (grown_kb KBX.out g2 hpr.out.2.2)
      have HLF2 : Hid (∀ z, QnFine z → (lf z && !decide (z = q)) = true → z ∈ Ng.keys s) := fun z hz h => HLF.out z hz (by simp at h; exact h.1)
      have RR2 := hide R2
      have N2 := hide (Blk.made w2 #[.string q.n, .int .i64 q.t, .int .i64 q.c] 32)
      have kA := (Keeps.refl w2).alloc (.cells #[.string q.n, .int .i64 q.t, .int .i64 q.c] 32)
      replace B2 := hide (B2.out.keeps kA)
      replace RW2 := hide (RW2.out.keeps kA)
      replace KB2 := hide (KB2.out.trans (KB.of kA))
      replace RR2 := hide (RR2.out.keeps kA)
      have hNp : Hid (w2.heap.size ≠ p ∧ w2.heap.size ≠ m ∧ w2.heap.size ≠ r ∧ w2.heap.size < (w2.alloc (.cells #[.string q.n, .int .i64 q.t, .int .i64 q.c] 32)).heap.size) := by
        have e1 : (w2.alloc (.cells #[.string q.n, .int .i64 q.t, .int .i64 q.c] 32)).heap.size = w2.heap.size + 1 := size_allocG _ _
        have e2 := R2.ne
        have e3 := g2.size
        have e4 := B.out.lt
        rw [Hid]
        omega
      clear B RW R KBX HLF g2 hs2 hlt2 hlq R2 kA hq
      go_upto_region 7 with fail
      generalize w2.alloc (.cells #[.string q.n, .int .i64 q.t, .int .i64 q.c] 32) = w3 at *
      clear hen
      generalize w2.heap.size = N at *
      obtain ⟨b0, b1, b2⟩ := N2.out.three.1
      by_cases he : q.n = name
      · have hb : (q.n.toList == name.toList) = true := by rw [toList_beq, decide_eq_true he]
        have hE1 := hide (drK_drop (l := Ng.keys s) (lf := lf) he)
        have hE2 := hide (drF_drop (f := f) (lf := lf) he)
        have hD2 : Hid ((Ng.keys s).length - (drK (Ng.keys s) name (fun z => lf z && !decide (z = q))).length = (Ng.keys s).length - (drK (Ng.keys s) name lf).length + 1) := by
          have e1 := lrdrop_len (List.Sublist.nodup List.filter_sublist hnd.out : (drK (Ng.keys s) name lf).Nodup) hmA.out
          have e2 : (drK (Ng.keys s) name lf).length ≤ (Ng.keys s).length := drK_len
          rw [Hid, hE1.out]
          omega
        have hDQ := hide (fun W (hr : ReadRow W v1 3 ((drK (Ng.keys s) name lf).map qnL)) => Drop_q v1 (drK (Ng.keys s) name lf) q W hr (by have e2 : (drK (Ng.keys s) name lf).length ≤ (Ng.keys s).length := drK_len; omega))
        replace he := hide he
        generalize hDN : (Ng.keys s).length - (drK (Ng.keys s) name lf).length = DN at *
        replace hDN := hide hDN
        go_upto_region 8 with fail
        obtain ⟨⟨_, m1, _, _⟩, _, _⟩ := B2.out.four_cells
        have RD := hide (RR2.out.keeps (Keeps.refl w3).drew)
        go_region_law (refine step_delRV rfl _ _ _ _ rfl Try.underlying69 rfl RD.out q hqq.out rfl ?_; intro w4 cnt4 R4 hle4 t4)
        all_goals
          have B4 := hide (B2.out.drew.turned t4 hneq.out)
          have N4 := hide (N2.out.drew.turned t4 hNp.out.2.1)
          have KT := hide (KB.turned (p := p) t4)
          have RW4 := hide (RW2.out.kb AP1.out (KB.drew (KB.refl p m w3) |>.trans KT.out))
          have KB4 := hide (KB2.out.drew.trans KT.out)
          have RR4 : Hid (RangeV w4 m r n (drF f name (fun z => lf z && !decide (z = q))) (fun z => lf z && !decide (z = q)) cnt4) := by
            have e : (fun z => (lf z && !decide (z = q)) && !decide (z = q)) = (fun z => lf z && !decide (z = q)) := by funext z; cases lf z <;> cases decide (z = q) <;> rfl
            rw [Hid, hE2.out, ← e]
            exact R4
          have hle4' := hide hle4
          have hp4 : Hid (p < w4.heap.size ∧ m < w4.heap.size) := ⟨B4.out.lt, R4.ne.2.2⟩
          clear R4 t4 m1 b0 b1 b2 hle4 RD B2 N2 KT RW2 KB2 RR2
          obtain ⟨⟨_, _, m2, _⟩, _, _⟩ := B4.out.four_cells
          obtain ⟨b0, b1, b2⟩ := N4.out.three.1
          have KD := hide ((Keeps.refl w4).drew)
          go_upto_region 9 with fail
          go_region_with (go_at_call 48; refine (hDQ.out _ (RW4.out.keeps KD.out)).mono ?_; intro e w5 hE; obtain ⟨vt, rfl, ot, k5⟩ := hE; obtain ⟨za, zc, hz⟩ := ot.form; rw [List.length_map] at hz; subst hz; replace ot := hide ot; have S5 := hide (B4.out.keeps (KD.out.trans k5)); obtain ⟨⟨_, _, n2, _⟩, ⟨_, _, y2, _⟩, _⟩ := S5.out.four_cells)
          all_goals
            have P5 := hide (show Blk (w5.setCell ⟨p, 2, none⟩ (.slice za (Lr.drop (drK (Ng.keys s) name lf) q).length zc)) p #[.int .i64 s.room, .map (some m), .slice za (Lr.drop (drK (Ng.keys s) name lf) q).length zc, .int .i64 s.changes] 71 by have := S5.out.set 2 (.slice za (Lr.drop (drK (Ng.keys s) name lf) q).length zc); simpa using this)
            have O5 := hide (ot.out.setOther (a := ⟨p, 2, none⟩) hp4.out.1 (.slice za (Lr.drop (drK (Ng.keys s) name lf) q).length zc)).read
            have A5 := hide (ot.out.apart (show p < w4.drew.heap.size from hp4.out.1) hp4.out.2)
            have KB5 := hide ((KB4.out.trans (KB.of (KD.out.trans k5))).trans (KB.setP w5 2 (.slice za (Lr.drop (drK (Ng.keys s) name lf) q).length zc)))
            have R5 := hide ((RR4.out.keeps (KD.out.trans k5)).same (w' := w5.setCell ⟨p, 2, none⟩ (.slice za (Lr.drop (drK (Ng.keys s) name lf) q).length zc)) (Below.heap_setCell _ _ _ _ (fun e => hneq.out e.symm)) (Below.heap_setCell _ _ _ _ (fun e => hpr.out.1 e.symm)))
            generalize w5.setCell ⟨p, 2, none⟩ (.slice za (Lr.drop (drK (Ng.keys s) name lf) q).length zc) = W5 at *
            clear m2 b0 b1 b2 n2 y2 ot S5 k5 KD hDQ B4 N4 RW4 KB4 RR4
            go_wp2_with fail
            go_roundw
            case rel => exact ⟨_, cnt4, _, by rw [hD2.out]; go_num, P5, by rw [hE1.out]; exact O5, A5, R5, HLF2, KB5⟩
            case measure => rw [R5.out.left_eq, hcn.out.1]; have := hcn.out.2; have := hle4'.out; omega
      · have hb : (q.n.toList == name.toList) = false := by rw [toList_beq, decide_eq_false he]
        have hE1 := hide (drK_other (l := Ng.keys s) (lf := lf) he)
        have hE2 := hide (drF_other (f := f) (lf := lf) he)
        replace he := hide he
        go_wp2_with fail
        go_roundw
        case rel => exact ⟨_, cnt2, v1, by rw [hE1.out], B2, by rw [hE1.out]; exact RW2, AP1, by rw [hE2.out]; exact RR2, HLF2, KB2⟩
        case measure => rw [RR2.out.left_eq, hcn.out.1]; exact hcn.out.2
end Go.Proofs.Ytedcjkfiljjpiaa
