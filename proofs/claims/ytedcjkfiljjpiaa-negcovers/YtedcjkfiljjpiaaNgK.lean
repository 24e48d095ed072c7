/- What is not there: an item is laid. No condition but lengths. -/
import Derived.Test.YtedcjkfiljjpiaaNgP
import Derived.Deep.RegionLaw
namespace Go.Proofs.Ytedcjkfiljjpiaa
open Go.RowKit

/-- 'delete(m, q)', as a step of a region that draws. -/
theorem step_delN {w : World} {ops : Array Oper} {o : Oper} {a : Act} {K : Act → World → Prop} {Q : Exit → Act → World → Prop} {E : Prop} {m n : Nat} {f : Qn → Option Value}
    (hgd : o.guard = none) (x y : Operand) (ho : o.op = .call { callee := .builtin .delete, args := #[x, y], argTypes := #[69, 32] })
    (hm : a.eval x = .map (some m)) (h : MapV w 32 qnV m n f) (q : Qn) (hq : QnFine q) (hx : a.eval y = .agg #[.string q.n, .int .i64 q.t, .int .i64 q.c])
    (hK : ∀ w', MapV w' 32 qnV m n (fun k => if k = q then none else f k) → w.mapTurned w' m → K (a.put o.dst (.tuple #[])) w') :
    if Region.wanted o (yielded ops a.tmps) = true then Oper.wp Try.prog o a w K Q else E := by
  have hw : Region.wanted o (yielded ops a.tmps) = true := by simp [Region.wanted, hgd]
  rw [if_pos hw]
  obtain ⟨w', hrun, h1, h2⟩ := h.del (t := 69) (e := 48) lawQ15 Try.underlying69 qnV_inj q (keyQ q hq.1 hq.2.1 hq.2.2) o.type
  unfold qnV at hrun
  unfold Oper.wp
  simp [execOp, ho, resolve, invoke, builtin, hm, hx, hrun, Result.andThen]
  exact hK w' h1 h2

/-- What is laid, ahead of its being counted; f: what the map held. -/
def KeepNEnd (w : World) (p m : Nat) (s : Ngs) (x : Ni) (vd : Value) (f : Qn → Option Value) (e : Ending) (w' : World) : Prop :=
  e = .returned (.tuple #[]) ∧ KB p m w w' ∧ ∃ (v : Value) (n : Nat) (f' : Qn → Option Value), Blk w' p #[.int .i64 s.room, .map (some m), v, .int .i64 s.changes] 71 ∧ ReadRow w' v 3 ((Ng.keysL (Ng.cut (Ng.without s.items x.key ++ [x]) s.room)).map qnL) ∧ (∀ a k c, v = .slice (some a) k c → w.heap.size ≤ a.block) ∧ MapV w' 32 qnV m n f' ∧ (n : Int) ≤ s.changes + 1 ∧
    ∀ W9, (∀ q, NFOk W9 p m (Ng.find s.items q) (f q)) → ReadS W9 vd x.soa.ds → Apart vd p m → ∀ q, NFOk W9 p m (Ng.find (Ng.cut (Ng.without s.items x.key ++ [x]) s.room) q) (f' q)
/-- How far those that are cut have been forgotten. -/
def KeepNRel (w W7 : World) (p m : Nat) (s : Ngs) (CK : List Qn) (vu : Value) (n : Nat) (f : Qn → Option Value) (i : Value) (wr : World) : Prop :=
  ∃ (j : Nat) (f2 : Qn → Option Value), j ≤ CK.length ∧ i = .int .i64 j ∧ (∀ q, f2 q = if q ∈ CK.take j then none else f q) ∧ Blk wr p #[.int .i64 s.room, .map (some m), vu, .int .i64 s.changes] 71 ∧ MapV wr 32 qnV m n f2 ∧ KB p m w wr ∧ KB p m W7 wr
theorem KeepNRel.mk {w W7 : World} {p m : Nat} {s : Ngs} {CK : List Qn} {vu : Value} {n : Nat} {f f2 : Qn → Option Value} {i : Value} {wr : World} (j : Nat) (h : j ≤ CK.length) (hi : i = .int .i64 j) (hf : ∀ q, f2 q = if q ∈ CK.take j then none else f q)
    (hb : Blk wr p #[.int .i64 s.room, .map (some m), vu, .int .i64 s.changes] 71) (hm : MapV wr 32 qnV m n f2) (k : KB p m w wr) (k7 : KB p m W7 wr) : KeepNRel w W7 p m s CK vu n f i wr := ⟨j, f2, h, hi, hf, hb, hm, k, k7⟩

set_option maxHeartbeats 16000000 in
set_option maxRecDepth 100000 in
theorem keepN_any (p m : Nat) (s : Ngs) (x : Ni) (vd : Value) (w : World) (h1 : p ≠ m) (h2 : NgOk s) (v : Value) (n : Nat) (f : Qn → Option Value) (h3 : Blk w p #[.int .i64 s.room, .map (some m), v, .int .i64 s.changes] 71) (h4 : ReadRow w v 3 ((Ng.keys s).map qnL)) (h5 : Apart v p m) (h6 : MapV w 32 qnV m n f) (h7 : (n : Int) ≤ s.changes) (hx : NiFine x) (hvf : ∃ a c, vd = .slice a x.soa.ds.length c) (hch : s.changes ≤ 1099511627776) :
    Calls Try.prog 43 #[.pointer (some ⟨p, 0, none⟩), niV x vd] w fun e w' => KeepNEnd w p m s x vd f e w' := by
  obtain ⟨va, vc, rfl⟩ := hvf
  generalize hvl : x.soa.ds.length = vl at *
  have hplt := h3.lt
  have hmlt := h6.lt
  unfold niV
  have A := hide (Blk.made w #[.string x.key.n, .int .i64 x.key.t, .int .i64 x.key.c, .bool x.nx, .string x.soa.key.n, .int .i64 x.soa.key.t, .int .i64 x.soa.key.c, .slice va vl vc, .int .i64 x.soa.ttl, .int .i64 x.u] 48)
  have K := hide ((Keeps.refl w).alloc (.cells #[.string x.key.n, .int .i64 x.key.t, .int .i64 x.key.c, .bool x.nx, .string x.soa.key.n, .int .i64 x.soa.key.t, .int .i64 x.soa.key.c, .slice va vl vc, .int .i64 x.soa.ttl, .int .i64 x.u] 48))
  go_enter Try.func43, Try.ntmps43
  go_upto_region 1 with fail
  generalize w.alloc (.cells #[.string x.key.n, .int .i64 x.key.t, .int .i64 x.key.c, .bool x.nx, .string x.soa.key.n, .int .i64 x.soa.key.t, .int .i64 x.soa.key.c, .slice va vl vc, .int .i64 x.soa.ttl, .int .i64 x.u] 48) = W at *
  have hwW : Hid (w.heap.size ≤ W.heap.size) := K.out.size
  have hmF : Hid (m ≠ w.heap.size ∧ p ≠ w.heap.size) := by rw [Hid]; omega
  generalize hF : w.heap.size = F at A hmF ⊢
  replace hF := hide hF
  obtain ⟨⟨a0, a1, a2, a3, a4, a5, a6, a7, a8, a9⟩, _, _⟩ := A.out.ten
  have S1 := hide (h3.keeps K.out)
  obtain ⟨⟨_, m1, _, _⟩, _, _⟩ := S1.out.four_cells
  have hn : n < maxLen := by unfold maxLen; omega
  obtain ⟨W3, hrun, M3, t3⟩ := (h6.keeps K.out.drew).put (t := 69) (e := 48) lawQ15 Try.underlying69 qnV_inj hn x.key (keyQ x.key hx.1.1 hx.1.2.1 hx.1.2.2) (niV x (.slice va vl vc))
  have MM3 := hide M3
  have tt3 := hide t3
  unfold qnV niV at hrun
  clear M3 t3
  go_region
  have S3 := hide (S1.out.drew.turned tt3.out h1)
  have B3 := hide (A.out.drew.turned tt3.out hmF.out.1.symm)
  have KB3 := hide ((KB.of (p := p) (m := m) K.out.drew).trans (KB.turned tt3.out))
  have hp3 : Hid (p < W3.heap.size) := S3.out.lt
  have hm3 : Hid (m < W3.heap.size) := MM3.out.lt
  have hw3 : Hid (w.heap.size ≤ W3.heap.size) := KB3.out.size
  clear a0 a1 a2 a3 a4 a5 a6 a7 a8 a9 m1 hrun S1 A K tt3
  have hks := keysN_small h2
  have hroom := h2.room
  have HTC := hide (fun W (kk : KB p m w W) => Touch_q v (Ng.keys s) x.key W (h4.kb h5 kk) (by omega))
  have htl := Sto.touch_len' (Ng.keys s) x.key
  have HCC := hide (fun vt W (hr : ReadRow W vt 3 ((Lr.touch (Ng.keys s) x.key).map qnL)) => Cut_q vt (Lr.touch (Ng.keys s) x.key) s.room W hr (by omega) (by omega))
  have T : W3.drew.cell? ⟨p, 2, none⟩ = some v ∧ W3.drew.cell? ⟨p, 0, none⟩ = some (.int .i64 s.room) ∧ W3.drew.cell? ⟨F, 0, none⟩ = some (.string x.key.n) ∧ W3.drew.cell? ⟨F, 1, none⟩ = some (.int .i64 x.key.t) ∧ W3.drew.cell? ⟨F, 2, none⟩ = some (.int .i64 x.key.c) := ⟨S3.out.cell 2, S3.out.cell 0, B3.out.cell 0, B3.out.cell 1, B3.out.cell 2⟩
  have HTT : Hid (∀ w5, Keeps W3.drew w5 → w5.cell? ⟨p, 2, none⟩ = some v ∧ w5.cell? ⟨p, 0, none⟩ = some (.int .i64 s.room) ∧ w5.cell? ⟨F, 0, none⟩ = some (.string x.key.n) ∧ w5.cell? ⟨F, 1, none⟩ = some (.int .i64 x.key.t) ∧ w5.cell? ⟨F, 2, none⟩ = some (.int .i64 x.key.c)) := fun w5 k => ⟨(S3.out.drew.keeps k).cell 2, (S3.out.drew.keeps k).cell 0, (B3.out.drew.keeps k).cell 0, (B3.out.drew.keeps k).cell 1, (B3.out.drew.keeps k).cell 2⟩
  have KJ : Keeps W3.drew W3.drew := Keeps.refl _
  go_upto_region 2 with fail
  go_region_held3 (fun w' => w'.cell? ⟨p, 2, none⟩ = some v ∧ w'.cell? ⟨p, 0, none⟩ = some (.int .i64 s.room) ∧ w'.cell? ⟨F, 0, none⟩ = some (.string x.key.n) ∧ w'.cell? ⟨F, 1, none⟩ = some (.int .i64 x.key.t) ∧ w'.cell? ⟨F, 2, none⟩ = some (.int .i64 x.key.c)) (exact T) ((first | (go_at_call 67; refine (HTC.out _ (KB3.out.drew.trans (KB.of KJ))).mono ?_; intro e w5 hE; obtain ⟨vt, rfl, ot, k5⟩ := hE; have rt := hide ot.read; replace KJ := KJ.trans k5; replace T := HTT.out _ KJ; clear ot k5) | (go_at_call 66; refine (HCC.out _ _ rt.out).mono ?_; intro e w6 hE; obtain ⟨vu, vw, rfl, ou, ow, k6⟩ := hE; have hsz := hide KJ.size; replace KJ := KJ.trans k6; replace T := HTT.out _ KJ; clear k6)))
  have ou' := hide (ou.le (show W3.heap.size ≤ _ from hsz.out))
  have ow' := hide (ow.le (show W3.heap.size ≤ _ from hsz.out))
  clear ou ow rt T hsz HCC HTC
  obtain ⟨ua, uc, hu⟩ := ou'.out.form
  obtain ⟨wa, wc, hw⟩ := ow'.out.form
  rw [List.length_map] at hu hw
  generalize (List.drop (Lr.cutAt (Lr.touch (Ng.keys s) x.key).length s.room) (Lr.touch (Ng.keys s) x.key)).length = ul at hu
  generalize hwl : (List.take (Lr.cutAt (Lr.touch (Ng.keys s) x.key).length s.room) (Lr.touch (Ng.keys s) x.key)).length = wl at hw
  subst hu hw
  replace hwl := hide hwl
  generalize hKL : Lr.touch (Ng.keys s) x.key = KL at *
  have hA := Lr.cutAt_le KL.length s.room
  generalize hAA : Lr.cutAt KL.length s.room = A at *
  have S6 := hide (S3.out.drew.keeps KJ)
  have KB6 := hide (KB3.out.drew.trans (KB.of KJ))
  have M6 := hide (MM3.out.drewKeeps KJ)
  clear S3 B3 KB3 HTT KJ MM3
  obtain ⟨⟨_, _, p2, _⟩, ⟨_, _, f2, _⟩, _⟩ := S6.out.four_cells
  go_upto_region 4 with fail
  have S7 := hide (show Blk (w6.setCell ⟨p, 2, none⟩ (.slice ua ul uc)) p #[.int .i64 s.room, .map (some m), .slice ua ul uc, .int .i64 s.changes] 71 by have := S6.out.set 2 (.slice ua ul uc); simpa using this)
  have KB7 := hide (KB6.out.trans (KB.setP w6 2 (.slice ua ul uc)))
  have M7 := hide (M6.out.same (w' := w6.setCell ⟨p, 2, none⟩ (.slice ua ul uc)) (Below.heap_setCell _ _ _ _ (fun e => h1 e.symm)))
  have RU := hide (ou'.out.setOther (a := ⟨p, 2, none⟩) hp3.out (.slice ua ul uc)).read
  have RW := hide (ow'.out.setOther (a := ⟨p, 2, none⟩) hp3.out (.slice ua ul uc)).read
  have AU := hide (ou'.out.apart hp3.out hm3.out)
  have AW := hide (ow'.out.apart hp3.out hm3.out)
  have AB := hide (show ∀ a k c, (Value.slice ua ul uc) = .slice (some a) k c → w.heap.size ≤ a.block from fun a k c e => Nat.le_trans hw3.out (ou'.out.above a k c e))
  generalize w6.setCell ⟨p, 2, none⟩ (.slice ua ul uc) = W7 at *
  clear p2 f2 S6 KB6 M6 ou' ow'
  have hqf : Hid (∀ q ∈ KL.take A, QnFine q) := fun q hqm => by
    have hq2 := List.mem_of_mem_take hqm
    rw [← hKL] at hq2
    unfold Lr.touch at hq2
    rw [List.mem_append, List.mem_singleton] at hq2
    rcases hq2 with hq2 | hq2
    · have := (List.mem_filter.1 hq2).1
      obtain ⟨i, hi, rfl⟩ := List.mem_map.1 this
      exact (h2.fine i hi).1
    · rw [hq2]; exact hx.1
  have hcl : Hid ((KL.take A).length ≤ 1001) := by rw [Hid, List.length_take]; omega
  have HFIN : Hid (∀ wr f'', (∀ q, f'' q = if q ∈ KL.take A then none else (fun y => if y = x.key then some (niV x (.slice va vl vc)) else f y) q) → Blk wr p #[.int .i64 s.room, .map (some m), .slice ua ul uc, .int .i64 s.changes] 71 → MapV wr 32 qnV m (n + 1) f'' → KB p m w wr → KB p m W7 wr → KeepNEnd w p m s x (.slice va vl vc) f (.returned (.tuple #[])) wr) := by
    intro wr f'' hf'' hb hm hk hk7
    have hLk : Ng.keysL (Ng.without s.items x.key ++ [x]) = KL := by rw [← hKL]; exact Ng.touch_keys s.items x
    have hLn : (Ng.without s.items x.key ++ [x]).length = KL.length := by rw [← hLk, Ng.keysL_len]
    have hcutL : Ng.cut (Ng.without s.items x.key ++ [x]) s.room = (Ng.without s.items x.key ++ [x]).drop A := by unfold Ng.cut; rw [hLn, hAA]
    have hnd : (Ng.keysL (Ng.without s.items x.key ++ [x])).Nodup := by rw [hLk, ← hKL]; exact Ng.nodup_touch h2.nodup _
    refine ⟨rfl, hk, _, n + 1, f'', hb, ?_, AB.out, hm, by omega, fun W9 h8 hv hap q => ?_⟩
    · rw [hcutL, Ng.keysL_drop, hLk]
      exact RU.out.kb AU.out hk7
    · rw [hcutL, Ng.find_drop hnd, Ng.keysL_take, hLk, hf'' q]
      by_cases hq : q ∈ KL.take A
      · rw [if_pos hq, if_pos hq]; rfl
      · rw [if_neg hq, if_neg hq, Ng.find_append, Ng.find_without]
        by_cases hqx : q = x.key
        · subst hqx
          rw [if_pos rfl]
          simp only [if_true, Option.none_or]
          have : Ng.find [x] x.key = some x := by simp [Ng.find]
          rw [this]
          exact ⟨_, rfl, hv, hap⟩
        · rw [if_neg hqx]
          simp only [if_neg hqx]
          have : Ng.find [x] q = none := by simp [Ng.find, Ne.symm hqx]
          rw [this, Option.or_none]
          exact h8 q
  clear h4 h5 h6 h3 RU
  generalize KL.take A = CK at *
  go_wp2_with fail
  go_loopw [7, 36] (fun _ i wr => KeepNRel w W7 p m s CK (.slice ua ul uc) (n + 1) (fun y => if y = x.key then some (niV x (.slice va vl vc)) else f y) i wr) (fun _ i _ => wl - (intOf i).toNat)
  case atStart => exact KeepNRel.mk 0 (by omega) rfl (fun _ => by simp) S7.out M7.out KB7.out (KB.refl _ _ _)
  case round =>
    clear S7 M7 KB7
    obtain ⟨j, f2, hj, rfl, hf2, S, M, KX, KB7⟩ := hrel
    have hwl' := hwl.out
    replace hf2 := hide hf2
    replace S := hide S
    replace M := hide M
    replace KX := hide KX
    replace KB7 := hide KB7
    have hcl' := hcl.out
    by_cases hlt : j < CK.length
    · have i2 : (j : Int) < (wl : Int) := by omega
      have i0 : (0 : Int) ≤ (j : Int) := by omega
      have hv2 := RW.out.kb AW.out KB7.out
      obtain ⟨b, off, rfl, _, _⟩ := hv2.parts (by rw [List.length_map]; omega)
      obtain ⟨c0, c1, c2⟩ := row3 hv2 hlt
      have hqj := hide (hqf.out _ (List.getElem_mem hlt))
      have HTK := hide (show CK.take (j + 1) = CK.take j ++ [CK[j]] from List.take_succ_eq_append_getElem hlt)
      generalize hoo : off + j * 3 = o at *
      generalize CK[j] = y at *
      clear hv2
      have B := hide (Blk.made wr #[.string y.n, .int .i64 y.t, .int .i64 y.c] 32)
      have S1 := hide (S.out.alloc (.cells #[.string y.n, .int .i64 y.t, .int .i64 y.c] 32))
      have M1 := hide (M.out.keeps ((Keeps.refl wr).alloc (.cells #[.string y.n, .int .i64 y.t, .int .i64 y.c] 32)))
      have KA := hide (KB.of (p := p) (m := m) ((Keeps.refl wr).alloc (.cells #[.string y.n, .int .i64 y.t, .int .i64 y.c] 32)))
      go_upto_region 7 with fail
      generalize wr.alloc (.cells #[.string y.n, .int .i64 y.t, .int .i64 y.c] 32) = W8 at *
      generalize wr.heap.size = N8 at *
      clear c0 c1 c2 S M
      obtain ⟨⟨b0, b1, b2⟩, _, _⟩ := B.out.three
      obtain ⟨⟨_, m1, _, _⟩, _, _⟩ := S1.out.four_cells
      have MD := hide (M1.out.keeps (Keeps.refl W8).drew)
      go_region_law (refine step_delN rfl _ _ rfl rfl MD.out y hqj.out rfl ?_; intro W9 M9 t9)
      all_goals
        have S9 := hide (S1.out.drew.turned t9 h1)
        have K9 := hide (KA.out.drew.trans (KB.turned t9))
        have HF9 : Hid (∀ q, (fun k => if k = y then none else f2 k) q = if q ∈ CK.take (j + 1) then none else (fun y => if y = x.key then some (niV x (.slice va vl vc)) else f y) q) := fun q => by
          rw [HTK.out]
          simp only [List.mem_append, List.mem_singleton]
          by_cases hqy : q = y
          · rw [if_pos hqy, if_pos (.inr hqy)]
          · rw [if_neg hqy, hf2.out q]
            by_cases hq : q ∈ CK.take j
            · rw [if_pos hq, if_pos (.inl hq)]
            · rw [if_neg hq, if_neg (by rintro (h | h); exact hq h; exact hqy h)]
        have MM9 := hide M9
        have KF := hide (KX.out.trans K9.out)
        have KF7 := hide (KB7.out.trans K9.out)
        clear M9 t9 S1 M1 KA MD b0 b1 b2 m1 B hf2 KX KB7 K9
        go_wp2_with fail
        go_roundw
        case rel => exact KeepNRel.mk (j + 1) (by omega) (by go_num) HF9.out S9.out MM9.out KF.out KF7.out
        case measure => simp [intOf]; omega
    · have i3 : ¬ (j : Int) < (wl : Int) := by omega
      have hEND := hide (HFIN.out wr f2 (fun q => by rw [hf2.out q, List.take_of_length_le (by omega)]) S.out M.out KX.out KB7.out)
      clear HFIN hf2 S M KX KB7
      go_wp2
      go_end0
      exact hEND.out
end Go.Proofs.Ytedcjkfiljjpiaa
