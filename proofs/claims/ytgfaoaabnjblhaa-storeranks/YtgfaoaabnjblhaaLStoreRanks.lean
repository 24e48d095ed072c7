/- StoreRanks answers true, for every input: the walk. -/
import Derived.Test.YtgfaoaabnjblhaaLStoreNil
namespace Go.Proofs.Ytgfaoaabnjblhaa
open Go.RowKit

def g0 : Sto := ⟨5, [], 0⟩
theorem small_ds (x : St) (h : smallS x = true) : x.ds.length ≤ 1000000 := by
  unfold smallS at h
  simp only [Bool.and_eq_true, decide_eq_true_eq] at h
  omega
theorem g0_key (q : Qn) : Sto.find g0.items q = none := rfl
theorem rk_first (now : Int) (x : St) (r : Int) (h : Sto.putE g0 now x r = 0) : Sto.put g0 now x r = ⟨5, [⟨x, Ag.till now x.ttl, r⟩], 1⟩ := by
  unfold Sto.put
  rw [if_pos h]
  rfl
theorem rk_none (now : Int) (x : St) (r : Int) (h : ¬ Sto.putE g0 now x r = 0) : Sto.put g0 now x r = g0 := by unfold Sto.put; rw [if_neg h]
theorem find_one (i : It) : Sto.find [i] i.set.key = some i := by simp [Sto.find]
theorem rk_peek (i : It) (n : Int) : Sto.peek ⟨5, [i], 1⟩ n i.set.key = if Ag.live n i.u = true then some i else none := by
  unfold Sto.peek
  rw [find_one]
  cases h : Ag.live n i.u <;> simp [Option.filter, h]
/-- What comes of a second Put of the same key. -/
theorem rk_second (i : It) (n : Int) (y : St) (r : Int) (hy : y.key = i.set.key) (h : Sto.putE ⟨5, [i], 1⟩ n y r = 0) :
    (Ag.live n i.u = true → i.rank ≤ r) ∧ Sto.put ⟨5, [i], 1⟩ n y r = ⟨5, [⟨y, Ag.till n y.ttl, r⟩], 2⟩ ∧ Sto.peek (Sto.put ⟨5, [i], 1⟩ n y r) n i.set.key = some ⟨y, Ag.till n y.ttl, r⟩ := by
  have hp : Sto.put ⟨5, [i], 1⟩ n y r = ⟨5, [⟨y, Ag.till n y.ttl, r⟩], 2⟩ := by
    unfold Sto.put
    rw [if_pos h, hy]
    have : Sto.without [i] i.set.key = [] := by simp [Sto.without]
    rw [this]
    rfl
  have hl : Ag.live n (Ag.till n y.ttl) = true := by
    unfold Sto.putE at h
    split at h
    · split at h
      · assumption
      · omega
    · omega
  refine ⟨fun hv => ?_, hp, ?_⟩
  · unfold Sto.putE at h
    rw [hy, find_one] at h
    split at h
    · simp only at h
      split at h
      · rename_i ho
        unfold Rk.over at ho
        rw [hv] at ho
        simp only [Bool.not_true, Bool.false_or, Bool.and_eq_true, decide_eq_true_eq] at ho
        exact ho.2
      · omega
    · omega
  · rw [hp]
    unfold Sto.peek
    have : Sto.find [⟨y, Ag.till n y.ttl, r⟩] i.set.key = some ⟨y, Ag.till n y.ttl, r⟩ := by
      rw [← hy]
      exact find_one ⟨y, Ag.till n y.ttl, r⟩
    rw [this]
    simp [Option.filter, hl]
theorem rk_refused (i : It) (n : Int) (y : St) (r : Int) (hy : y.key = i.set.key) (h : Sto.putE ⟨5, [i], 1⟩ n y r = 10) : Ag.live n i.u = true ∧ r < i.rank := by
  unfold Sto.putE at h
  rw [hy, find_one] at h
  split at h
  · rename_i h1
    split at h
    · simp only at h
      split at h
      · omega
      · rename_i ho
        simp only [Bool.and_eq_true] at h1
        unfold Rk.over at ho
        rw [h1.2] at ho
        cases hl : Ag.live n i.u
        · rw [hl] at ho; simp at ho
        · rw [hl] at ho
          simp at ho
          exact ⟨rfl, by omega⟩
    · omega
  · omega
theorem rk_same (s : Sto) (n : Int) (y : St) (r : Int) (h : ¬ Sto.putE s n y r = 0) : Sto.put s n y r = s := by unfold Sto.put; rw [if_neg h]
theorem rk_all (ia : It) (k : Qn) (hk : ia.set.key = k) (n : Int) (y : St) (hy : y.key = k) (r : Int) :
    (Sto.putE ⟨5, [ia], 1⟩ n y r = 0 → ((Sto.peek ⟨5, [ia], 1⟩ n k).isSome = true → ia.rank ≤ r) ∧ (∃ z, Sto.peek (Sto.put ⟨5, [ia], 1⟩ n y r) n k = some z ∧ z.rank = r) ∧ (Sto.put ⟨5, [ia], 1⟩ n y r).changes = 2) ∧
    (Sto.putE ⟨5, [ia], 1⟩ n y r = 10 → (Sto.peek ⟨5, [ia], 1⟩ n k).isSome = true ∧ r < ia.rank) ∧
    (¬ Sto.putE ⟨5, [ia], 1⟩ n y r = 0 → Sto.peek (Sto.put ⟨5, [ia], 1⟩ n y r) n k = Sto.peek ⟨5, [ia], 1⟩ n k ∧ (Sto.put ⟨5, [ia], 1⟩ n y r).changes = 1) := by
  subst hk
  refine ⟨fun h => ?_, fun h => ?_, fun h => ?_⟩
  · obtain ⟨h1, h2, h3⟩ := rk_second ia n y r hy h
    refine ⟨fun hs => h1 ?_, ⟨_, h3, rfl⟩, by rw [h2]⟩
    rw [rk_peek] at hs
    split at hs
    · assumption
    · cases hs
  · obtain ⟨h1, h2⟩ := rk_refused ia n y r hy h
    refine ⟨?_, h2⟩
    rw [rk_peek, if_pos h1]
    rfl
  · rw [rk_same _ n y r h]
    exact ⟨rfl, rfl⟩
theorem peek_len {w : World} {p m : Nat} {s : Sto} (h : SAt w p m s) (n : Int) (q : Qn) : ((Sto.peek s n q).getD noIt).set.ds.length ≤ 1099511627776 := by
  unfold Sto.peek
  cases hfd : Sto.find s.items q with
  | none => simp [Option.filter, noIt, noSt]
  | some j =>
    have hj := (h.ok.fine j (Sto.find_key hfd).1).2.2.1
    cases hl : Ag.live n j.u
    · simp [Option.filter, hl, noIt, noSt]
    · simp only [Option.filter, hl, if_true, Option.getD_some]
      omega
/-- What is told of an item, as a value. -/
theorem TellOk.see {w : World} {B : Nat} {oi : Option It} {vi : Value} (h : TellOk w B oi vi) {p m : Nat} (hp : p < B) (hm : m < B) : ∃ x a n c, vi = itV x (.slice a n c) ∧ ReadS w (.slice a n c) x.set.ds ∧ Apart (.slice a n c) p m ∧ x = oi.getD noIt := by
  cases oi with
  | none => exact ⟨noIt, none, 0, 0, h, ReadS.none, Apart.none _ _ _ _, rfl⟩
  | some i =>
    obtain ⟨vd, rfl, ho⟩ := h
    obtain ⟨a, c, rfl⟩ := ho.form
    exact ⟨i, _, _, _, rfl, readS_of_tv ho.read, ho.apart hp hm, rfl⟩

set_option maxHeartbeats 32000000 in
set_option maxRecDepth 100000 in
theorem StoreRanks_walk (v : Value) (a : Op14) (u : Value) (b : Op14) (w : World) (hv : Op14At w v a) (hf : Op14Fine a) (hu : Op14At w u b) (hg : Op14Fine b) :
    Calls Try.prog 5 #[v, u] w fun e w' => e = .returned (.bool true) ∧ Keeps w w' := by
  obtain ⟨vd, rfl, hds⟩ := hv
  obtain ⟨ud, rfl, hes⟩ := hu
  obtain ⟨hf1, hf2, _, _, _⟩ := hf
  obtain ⟨hg1, hg2, _, _, _⟩ := hg
  have hst : StAt w (.agg #[.string a.set.key.n, .int .i64 a.set.key.t, .int .i64 a.set.key.c, vd, .int .i64 a.set.ttl]) a.set := ⟨vd, rfl, hds⟩
  have hsu : StAt w (.agg #[.string b.set.key.n, .int .i64 b.set.key.t, .int .i64 b.set.key.c, ud, .int .i64 b.set.ttl]) b.set := ⟨ud, rfl, hes⟩
  have hsk : StAt w (.agg #[.string a.set.key.n, .int .i64 a.set.key.t, .int .i64 a.set.key.c, ud, .int .i64 b.set.ttl]) ⟨a.set.key, b.set.ds, b.set.ttl⟩ := ⟨ud, rfl, hes⟩
  have hk1 : StFine ⟨a.set.key, b.set.ds, b.set.ttl⟩ := ⟨hf1.1, hg1.2.1, hg1.2.2⟩
  have hk2 : StIn ⟨a.set.key, b.set.ds, b.set.ttl⟩ := ⟨hf2.1, hg2.2⟩
  have HS1 := hide (fun W (kk : Keeps w W) => SmallS_any _ a.set W (hst.keeps kk) hf1)
  have HS2 := hide (fun W (kk : Keeps w W) => SmallS_any _ b.set W (hsu.keeps kk) hg1)
  have hsm1 := hide (small_ds a.set)
  have hsm2 := hide (small_ds b.set)
  have HP1 := hide (fun p m W (kk : Keeps w W) (h : SAt W p m g0) (h6 : a.set.ds.length ≤ 1000000) => Put_any p m g0 a.now _ a.set a.rank W (hst.keeps kk) hf1 hf2 h h6 (by decide))
  have HP2 := hide (fun p m s W (kk : Keeps w W) (h : SAt W p m s) (h6 : b.set.ds.length ≤ 1000000) (hc : s.changes ≤ 1099511627776) => Put_any p m s b.now _ ⟨a.set.key, b.set.ds, b.set.ttl⟩ b.rank W (hsk.keeps kk) hk1 hk2 h h6 hc)
  obtain ⟨aa, ac, rfl⟩ := hds.len
  obtain ⟨ba, bc, rfl⟩ := hes.len
  unfold op14V
  have BA := hide ((Blk.made w #[.int .i64 a.d, .int .i64 a.now, .string a.set.key.n, .int .i64 a.set.key.t, .int .i64 a.set.key.c, .slice aa a.set.ds.length ac, .int .i64 a.set.ttl, .int .i64 a.rank] 37).alloc (.cells #[.int .i64 b.d, .int .i64 b.now, .string b.set.key.n, .int .i64 b.set.key.t, .int .i64 b.set.key.c, .slice ba b.set.ds.length bc, .int .i64 b.set.ttl, .int .i64 b.rank] 37))
  have BB := Blk.made (w.alloc (.cells #[.int .i64 a.d, .int .i64 a.now, .string a.set.key.n, .int .i64 a.set.key.t, .int .i64 a.set.key.c, .slice aa a.set.ds.length ac, .int .i64 a.set.ttl, .int .i64 a.rank] 37)) #[.int .i64 b.d, .int .i64 b.now, .string b.set.key.n, .int .i64 b.set.key.t, .int .i64 b.set.key.c, .slice ba b.set.ds.length bc, .int .i64 b.set.ttl, .int .i64 b.rank] 37
  rw [size_allocG] at BB
  replace BB := hide BB
  have K := hide (((Keeps.refl w).alloc (.cells #[.int .i64 a.d, .int .i64 a.now, .string a.set.key.n, .int .i64 a.set.key.t, .int .i64 a.set.key.c, .slice aa a.set.ds.length ac, .int .i64 a.set.ttl, .int .i64 a.rank] 37)).alloc (.cells #[.int .i64 b.d, .int .i64 b.now, .string b.set.key.n, .int .i64 b.set.key.t, .int .i64 b.set.key.c, .slice ba b.set.ds.length bc, .int .i64 b.set.ttl, .int .i64 b.rank] 37))
  go_enter Try.func5, Try.ntmps5
  go_upto_region 1 with fail
  generalize (w.alloc (.cells #[.int .i64 a.d, .int .i64 a.now, .string a.set.key.n, .int .i64 a.set.key.t, .int .i64 a.set.key.c, .slice aa a.set.ds.length ac, .int .i64 a.set.ttl, .int .i64 a.rank] 37)).alloc (.cells #[.int .i64 b.d, .int .i64 b.now, .string b.set.key.n, .int .i64 b.set.key.t, .int .i64 b.set.key.c, .slice ba b.set.ds.length bc, .int .i64 b.set.ttl, .int .i64 b.rank] 37) = W at *
  have hwF : Hid (w.heap.size ≠ w.heap.size + 1) := by rw [Hid]; omega
  have hGl : Hid (w.heap.size ≤ w.heap.size + 1) := Nat.le_succ _
  generalize w.heap.size + 1 = G at *
  generalize hF : w.heap.size = F at BA hwF ⊢
  replace hF := hide hF
  obtain ⟨a0, a1, a2, a3, a4, a5, a6, a7⟩ := BA.out.eight
  go_wp2_with fail
  refine (HS1.out _ K.out).mono ?_
  rintro e wk ⟨rfl, k1⟩
  replace BA := hide (BA.out.keeps k1)
  replace BB := hide (BB.out.keeps k1)
  replace K := hide (K.out.trans k1)
  clear k1 a0 a1 a2 a3 a4 a5 a6 a7 HS1
  cases hsa : smallS a.set
  · go_wp2_with fail
    refine (live14_any _).mono ?_
    rintro e wz ⟨rfl, kz⟩
    replace K := hide (K.out.trans kz)
    go_wp2
    go_ret
    exact ⟨rfl, K.out⟩
  have hda := hide (hsm1.out hsa)
  obtain ⟨b0, b1, b2, b3, b4, b5, b6, b7⟩ := BB.out.eight
  go_wp2_with fail
  refine (HS2.out _ K.out).mono ?_
  rintro e wk ⟨rfl, k1⟩
  replace BA := hide (BA.out.keeps k1)
  replace BB := hide (BB.out.keeps k1)
  replace K := hide (K.out.trans k1)
  clear k1 b0 b1 b2 b3 b4 b5 b6 b7 HS2
  cases hsb : smallS b.set
  · go_wp2_with fail
    refine (live14_any _).mono ?_
    rintro e wz ⟨rfl, kz⟩
    replace K := hide (K.out.trans kz)
    go_wp2
    go_ret
    exact ⟨rfl, K.out⟩
  have hdb := hide (hsm2.out hsb)
  go_wp2_with fail
  refine (New_yes 5 _ (by decide) (by decide)).mono ?_
  intro e w3 hE
  obtain ⟨p, m, rfl, hp, hm, hS, k1⟩ := hE
  have hpw : Hid (w.heap.size ≤ p ∧ w.heap.size ≤ m) := by have := K.out.size; rw [Hid]; omega
  have hpF : Hid ((F < p ∧ F < m) ∧ (G < p ∧ G < m)) := by have := BA.out.lt; have := BB.out.lt; rw [Hid]; omega
  have S := hide (show SAt w3 p m g0 from hS)
  replace BA := hide (BA.out.keeps k1)
  replace BB := hide (BB.out.keeps k1)
  replace K := hide (K.out.trans k1)
  clear k1 hS hp hm
  obtain ⟨a0, a1, a2, a3, a4, a5, a6, a7⟩ := BA.out.eight
  go_wp2_with fail
  refine (HP1.out p m _ K.out S.out hda.out).mono ?_
  intro e w4 hE
  obtain ⟨rfl, hS, kb⟩ := hE
  replace S := hide hS
  replace BA := hide (BA.out.kb (by have := hpF.out; omega) (by have := hpF.out; omega) kb)
  replace BB := hide (BB.out.kb (by have := hpF.out; omega) (by have := hpF.out; omega) kb)
  replace K := hide (show Keeps w w4 from Below.trans K.out (kb.below hpw.out.1 hpw.out.2 K.out.size))
  clear kb hS HP1 a0 a1 a2 a3 a4 a5 a6 a7
  have hputs := hide (rk_first a.now a.set a.rank)
  have hputn := hide (rk_none a.now a.set a.rank)
  generalize hc1 : Sto.putE g0 a.now a.set a.rank = c1 at *
  replace hc1 := hide hc1
  by_cases hz : ¬ c1 = 0
  · replace S := hide (show SAt w4 p m g0 by have h := S.out; rw [hputn.out hz] at h; exact h)
    go_wp2_with fail
    refine (Keys_any p m g0 _ S.out).mono ?_
    intro e w5 hE
    obtain ⟨vk, rfl, ok, k5⟩ := hE
    obtain ⟨ka, kc, rfl⟩ := ok.form
    rw [show (g0.keys.map qnL).length = 0 from rfl]
    replace S := hide (S.out.keeps k5)
    replace K := hide (K.out.trans k5)
    clear k5 ok
    go_wp2_with fail
    refine (Changes_any p m g0 _ S.out).mono ?_
    rintro e w6 ⟨rfl, rfl⟩
    rw [show g0.changes = 0 from rfl]
    go_wp2_with fail
    refine (live14_any _).mono ?_
    rintro e wz ⟨rfl, kz⟩
    replace K := hide (K.out.trans kz)
    clear kz
    go_wp2
    go_ret
    exact ⟨rfl, K.out⟩
  replace hz : c1 = 0 := by omega
  replace S := hide (show SAt w4 p m ⟨5, [⟨a.set, Ag.till a.now a.set.ttl, a.rank⟩], 1⟩ by have h := S.out; rw [hputs.out hz] at h; exact h)
  subst hz
  clear hputs hputn
  obtain ⟨ia, hik, hir, S⟩ : ∃ ia : It, Hid (ia.set.key = a.set.key) ∧ Hid (ia.rank = a.rank) ∧ Hid (SAt w4 p m ⟨5, [ia], 1⟩) := ⟨⟨a.set, Ag.till a.now a.set.ttl, a.rank⟩, hide rfl, hide rfl, S⟩
  have hl1 := hide (peek_len S.out b.now a.set.key)
  have HPK1 := hide (fun W (h : SAt W p m ⟨5, [ia], 1⟩) => Peek_any p m _ b.now a.set.key W h hf2.1)
  have HPK2 := hide (fun W h => Peek_any p m (Sto.put ⟨5, [ia], 1⟩ b.now ⟨a.set.key, b.set.ds, b.set.ttl⟩ b.rank) b.now a.set.key W h hf2.1)
  replace HP2 := hide (fun W (kk : Keeps w W) (h : SAt W p m ⟨5, [ia], 1⟩) => HP2.out p m _ W kk h hdb.out (show (1 : Int) ≤ 1099511627776 by decide))
  obtain ⟨f1, f2, f3⟩ := rk_all ia a.set.key hik.out b.now ⟨a.set.key, b.set.ds, b.set.ttl⟩ rfl b.rank
  rw [hir.out] at f1 f2
  replace f1 := hide f1
  replace f2 := hide f2
  replace f3 := hide f3
  generalize Sto.peek (Sto.put ⟨5, [ia], 1⟩ b.now ⟨a.set.key, b.set.ds, b.set.ttl⟩ b.rank) b.now a.set.key = o2 at *
  generalize Sto.putE ⟨5, [ia], 1⟩ b.now ⟨a.set.key, b.set.ds, b.set.ttl⟩ b.rank = c2 at *
  generalize Sto.put ⟨5, [ia], 1⟩ b.now ⟨a.set.key, b.set.ds, b.set.ttl⟩ b.rank = s2 at *
  generalize Sto.peek ⟨5, [ia], 1⟩ b.now a.set.key = o1 at *
  generalize (⟨5, [ia], 1⟩ : Sto) = s1 at *
  clear hik hir
  obtain ⟨a0, a1, a2, a3, a4, a5, a6, a7⟩ := BA.out.eight
  obtain ⟨b0, b1, b2, b3, b4, b5, b6, b7⟩ := BB.out.eight
  have q2 := BB.out.frozen 2
  have q3 := BB.out.frozen 3
  have q4 := BB.out.frozen 4
  go_upto_region 9 with fail
  replace BA := hide (((BA.out.other (a := ⟨G, 2, none⟩) (Ne.symm hwF.out) (.string a.set.key.n)).other (a := ⟨G, 3, none⟩) (Ne.symm hwF.out) (.int .i64 a.set.key.t)).other (a := ⟨G, 4, none⟩) (Ne.symm hwF.out) (.int .i64 a.set.key.c))
  replace BB := hide (show Blk (((w4.setCell ⟨G, 2, none⟩ (.string a.set.key.n)).setCell ⟨G, 3, none⟩ (.int .i64 a.set.key.t)).setCell ⟨G, 4, none⟩ (.int .i64 a.set.key.c)) G #[.int .i64 b.d, .int .i64 b.now, .string a.set.key.n, .int .i64 a.set.key.t, .int .i64 a.set.key.c, .slice ba b.set.ds.length bc, .int .i64 b.set.ttl, .int .i64 b.rank] 37 by have h := ((BB.out.set 2 (.string a.set.key.n)).set 3 (.int .i64 a.set.key.t)).set 4 (.int .i64 a.set.key.c); simpa using h)
  have hGm : G ≠ m := by have := hpF.out; omega
  replace S := hide (((S.out.setFar (x := ⟨G, 2, none⟩) hpF.out.2.1 hGm (.string a.set.key.n)).setFar (x := ⟨G, 3, none⟩) hpF.out.2.1 hGm (.int .i64 a.set.key.t)).setFar (x := ⟨G, 4, none⟩) hpF.out.2.1 hGm (.int .i64 a.set.key.c))
  replace K := hide (((K.out.setC ⟨G, 2, none⟩ hGl.out (.string a.set.key.n)).setC ⟨G, 3, none⟩ hGl.out (.int .i64 a.set.key.t)).setC ⟨G, 4, none⟩ hGl.out (.int .i64 a.set.key.c))
  generalize ((w4.setCell ⟨G, 2, none⟩ (.string a.set.key.n)).setCell ⟨G, 3, none⟩ (.int .i64 a.set.key.t)).setCell ⟨G, 4, none⟩ (.int .i64 a.set.key.c) = w5 at *
  clear q2 q3 q4 hGm a0 a1 a2 a3 a4 a5 a6 a7 b0 b1 b2 b3 b4 b5 b6 b7
  obtain ⟨a0, a1, a2, a3, a4, a5, a6, a7⟩ := BA.out.eight
  obtain ⟨b0, b1, b2, b3, b4, b5, b6, b7⟩ := BB.out.eight
  go_wp2_with fail
  refine (HPK1.out _ S.out).mono ?_
  intro e w6 hE
  obtain ⟨vi, rfl, ht, k1⟩ := hE
  obtain ⟨x, xa, xn, xc, rfl, hr, hxp, hxx⟩ := ht.see S.out.lt.1 S.out.lt.2
  have hxB : Hid (p < w6.heap.size ∧ m < w6.heap.size) := (S.out.keeps k1).lt
  replace hxx := hide hxx
  have XR := hide (hr.keeps ((Keeps.refl w6).alloc (.cells #[.string x.set.key.n, .int .i64 x.set.key.t, .int .i64 x.set.key.c, .slice xa xn xc, .int .i64 x.set.ttl, .int .i64 x.u, .int .i64 x.rank] 46)))
  have X := hide (Blk.made w6 #[.string x.set.key.n, .int .i64 x.set.key.t, .int .i64 x.set.key.c, .slice xa xn xc, .int .i64 x.set.ttl, .int .i64 x.u, .int .i64 x.rank] 46)
  replace k1 := k1.alloc (.cells #[.string x.set.key.n, .int .i64 x.set.key.t, .int .i64 x.set.key.c, .slice xa xn xc, .int .i64 x.set.ttl, .int .i64 x.u, .int .i64 x.rank] 46)
  replace S := hide (S.out.keeps k1)
  replace BA := hide (BA.out.keeps k1)
  replace BB := hide (BB.out.keeps k1)
  replace K := hide (K.out.trans k1)
  clear k1 hr ht HPK1 a0 a1 a2 a3 a4 a5 a6 a7 b0 b1 b2 b3 b4 b5 b6 b7
  unfold itV
  generalize hL1 : o1.isSome = L1 at *
  replace hL1 := hide hL1
  go_upto_region 10 with fail
  generalize w6.alloc (.cells #[.string x.set.key.n, .int .i64 x.set.key.t, .int .i64 x.set.key.c, .slice xa xn xc, .int .i64 x.set.ttl, .int .i64 x.u, .int .i64 x.rank] 46) = W6 at *
  generalize w6.heap.size = XB at *
  obtain ⟨a0, a1, a2, a3, a4, a5, a6, a7⟩ := BA.out.eight
  obtain ⟨b0, b1, b2, b3, b4, b5, b6, b7⟩ := BB.out.eight
  go_wp2_with fail
  refine (HP2.out _ K.out S.out).mono ?_
  intro e w7 hE
  obtain ⟨rfl, hS, kb⟩ := hE
  replace K := hide (show Keeps w w7 from Below.trans K.out (kb.below hpw.out.1 hpw.out.2 K.out.size))
  replace S := hide hS
  replace BA := hide (BA.out.kb (by have := hpF.out; omega) (by have := hpF.out; omega) kb)
  replace BB := hide (BB.out.kb (by have := hpF.out; omega) (by have := hpF.out; omega) kb)
  replace X := hide (X.out.kb (by have := hxB.out; omega) (by have := hxB.out; omega) kb)
  replace XR := hide (XR.out.kb hxp kb)
  clear kb hS HP2 hxp hxB a0 a1 a2 a3 a4 a5 a6 a7 b0 b1 b2 b3 b4 b5 b6 b7
  go_upto_region 11 with fail
  obtain ⟨a0, a1, a2, a3, a4, a5, a6, a7⟩ := BA.out.eight
  obtain ⟨b0, b1, b2, b3, b4, b5, b6, b7⟩ := BB.out.eight
  go_wp2_with fail
  refine (HPK2.out _ S.out).mono ?_
  intro e w8 hE
  obtain ⟨vi, rfl, ht, k1⟩ := hE
  obtain ⟨y, ya, yn, yc, rfl, hr, hyp, hyx⟩ := ht.see S.out.lt.1 S.out.lt.2
  have hyB : Hid (p < w8.heap.size ∧ m < w8.heap.size) := (S.out.keeps k1).lt
  replace hyx := hide hyx
  have YR := hide (hr.keeps ((Keeps.refl w8).alloc (.cells #[.string y.set.key.n, .int .i64 y.set.key.t, .int .i64 y.set.key.c, .slice ya yn yc, .int .i64 y.set.ttl, .int .i64 y.u, .int .i64 y.rank] 46)))
  have Y := hide (Blk.made w8 #[.string y.set.key.n, .int .i64 y.set.key.t, .int .i64 y.set.key.c, .slice ya yn yc, .int .i64 y.set.ttl, .int .i64 y.u, .int .i64 y.rank] 46)
  replace k1 := k1.alloc (.cells #[.string y.set.key.n, .int .i64 y.set.key.t, .int .i64 y.set.key.c, .slice ya yn yc, .int .i64 y.set.ttl, .int .i64 y.u, .int .i64 y.rank] 46)
  replace S := hide (S.out.keeps k1)
  replace BA := hide (BA.out.keeps k1)
  replace BB := hide (BB.out.keeps k1)
  replace K := hide (K.out.trans k1)
  replace X := hide (X.out.keeps k1)
  replace XR := hide (XR.out.keeps k1)
  clear k1 hr ht HPK2 a0 a1 a2 a3 a4 a5 a6 a7 b0 b1 b2 b3 b4 b5 b6 b7
  unfold itV
  generalize hL2 : o2.isSome = L2 at *
  replace hL2 := hide hL2
  go_upto_region 12 with fail
  generalize w8.alloc (.cells #[.string y.set.key.n, .int .i64 y.set.key.t, .int .i64 y.set.key.c, .slice ya yn yc, .int .i64 y.set.ttl, .int .i64 y.u, .int .i64 y.rank] 46) = W8 at *
  generalize w8.heap.size = YB at *
  clear hyp hyB
  by_cases hz : ¬ c2 = 0
  · obtain ⟨ho, hch⟩ := f3.out hz
    subst ho
    have hyx : y = x := hyx.out.trans hxx.out.symm
    rw [hyx] at Y YR
    have hLL : L2 = L1 := hL2.out.symm.trans hL1.out
    subst hLL
    replace hl1 : x.set.ds.length ≤ 1099511627776 := by rw [hxx.out]; exact hl1.out
    replace hl1 := hide hl1
    clear f1 f3 hyx hxx hL2
    by_cases h10 : c2 = 10
    · obtain ⟨hL, hlt⟩ := f2.out h10
      subst hL h10
      have hle : ¬ a.rank ≤ b.rank := by omega
      clear f2 hL1 hz
      obtain ⟨a0, a1, a2, a3, a4, a5, a6, a7⟩ := BA.out.eight
      obtain ⟨b0, b1, b2, b3, b4, b5, b6, b7⟩ := BB.out.eight
      go_upto_region 16 with fail
      clear hlt hle a0 a1 a2 a3 a4 a5 a6 a7 b0 b1 b2 b3 b4 b5 b6 b7
      have HT : Hid (∀ w', Keeps W8 w' → (w'.cell? ⟨XB, 0, none⟩ = some (.string x.set.key.n) ∧ w'.cell? ⟨XB, 1, none⟩ = some (.int .i64 x.set.key.t) ∧ w'.cell? ⟨XB, 2, none⟩ = some (.int .i64 x.set.key.c) ∧ w'.cell? ⟨XB, 3, none⟩ = some (.slice xa xn xc) ∧ w'.cell? ⟨XB, 4, none⟩ = some (.int .i64 x.set.ttl) ∧ w'.cell? ⟨XB, 5, none⟩ = some (.int .i64 x.u) ∧ w'.cell? ⟨XB, 6, none⟩ = some (.int .i64 x.rank)) ∧ (w'.cell? ⟨YB, 0, none⟩ = some (.string x.set.key.n) ∧ w'.cell? ⟨YB, 1, none⟩ = some (.int .i64 x.set.key.t) ∧ w'.cell? ⟨YB, 2, none⟩ = some (.int .i64 x.set.key.c) ∧ w'.cell? ⟨YB, 3, none⟩ = some (.slice ya yn yc) ∧ w'.cell? ⟨YB, 4, none⟩ = some (.int .i64 x.set.ttl) ∧ w'.cell? ⟨YB, 5, none⟩ = some (.int .i64 x.u) ∧ w'.cell? ⟨YB, 6, none⟩ = some (.int .i64 x.rank))) := fun w' k => ⟨(X.out.keeps k).seven.1, (Y.out.keeps k).seven.1⟩
      have HON := hide (fun W (k : Keeps W8 W) => One14_any (.slice xa xn xc) (.slice ya yn yc) x x W (XR.out.keeps k) (YR.out.keeps k) hl1.out)
      have HCH := hide (fun W (k : Keeps W8 W) => Changes_any p m s2 W (S.out.keeps k))
      rw [decide_eq_true rfl] at HON
      rw [hch] at HCH
      unfold itV at HON
      clear hch S X Y XR YR hl1
      have T := HT.out _ (Keeps.refl W8).drew
      have KK : Keeps W8 W8.drew := (Keeps.refl W8).drew
      go_region_held3 (fun w' => (w'.cell? ⟨XB, 0, none⟩ = some (.string x.set.key.n) ∧ w'.cell? ⟨XB, 1, none⟩ = some (.int .i64 x.set.key.t) ∧ w'.cell? ⟨XB, 2, none⟩ = some (.int .i64 x.set.key.c) ∧ w'.cell? ⟨XB, 3, none⟩ = some (.slice xa xn xc) ∧ w'.cell? ⟨XB, 4, none⟩ = some (.int .i64 x.set.ttl) ∧ w'.cell? ⟨XB, 5, none⟩ = some (.int .i64 x.u) ∧ w'.cell? ⟨XB, 6, none⟩ = some (.int .i64 x.rank)) ∧ (w'.cell? ⟨YB, 0, none⟩ = some (.string x.set.key.n) ∧ w'.cell? ⟨YB, 1, none⟩ = some (.int .i64 x.set.key.t) ∧ w'.cell? ⟨YB, 2, none⟩ = some (.int .i64 x.set.key.c) ∧ w'.cell? ⟨YB, 3, none⟩ = some (.slice ya yn yc) ∧ w'.cell? ⟨YB, 4, none⟩ = some (.int .i64 x.set.ttl) ∧ w'.cell? ⟨YB, 5, none⟩ = some (.int .i64 x.u) ∧ w'.cell? ⟨YB, 6, none⟩ = some (.int .i64 x.rank))) (exact T) ((first | (go_at_call 18; refine (told14_any _ _ _ _ _ _ _ _ _ _).mono ?_; rintro e w9 ⟨rfl, k5⟩; replace KK := Keeps.trans KK k5; replace T := HT.out _ KK; clear k5) | (go_at_call 17; refine (HON.out _ KK).mono ?_; rintro e w9 ⟨rfl, k5⟩; replace KK := Keeps.trans KK k5; replace T := HT.out _ KK; clear k5) | (go_at_call 26; refine (HCH.out _ KK).mono ?_; rintro e w9 ⟨rfl, rfl⟩) | (go_at_call 10; refine (live14_any _).mono ?_; rintro e w9 ⟨rfl, k5⟩; replace KK := Keeps.trans KK k5; replace T := HT.out _ KK; clear k5)))
      go_wp2
      go_ret
      exact ⟨rfl, K.out.trans KK⟩
    · clear f2 hL1
      go_upto_region 16 with fail
      have HT : Hid (∀ w', Keeps W8 w' → (w'.cell? ⟨XB, 0, none⟩ = some (.string x.set.key.n) ∧ w'.cell? ⟨XB, 1, none⟩ = some (.int .i64 x.set.key.t) ∧ w'.cell? ⟨XB, 2, none⟩ = some (.int .i64 x.set.key.c) ∧ w'.cell? ⟨XB, 3, none⟩ = some (.slice xa xn xc) ∧ w'.cell? ⟨XB, 4, none⟩ = some (.int .i64 x.set.ttl) ∧ w'.cell? ⟨XB, 5, none⟩ = some (.int .i64 x.u) ∧ w'.cell? ⟨XB, 6, none⟩ = some (.int .i64 x.rank)) ∧ (w'.cell? ⟨YB, 0, none⟩ = some (.string x.set.key.n) ∧ w'.cell? ⟨YB, 1, none⟩ = some (.int .i64 x.set.key.t) ∧ w'.cell? ⟨YB, 2, none⟩ = some (.int .i64 x.set.key.c) ∧ w'.cell? ⟨YB, 3, none⟩ = some (.slice ya yn yc) ∧ w'.cell? ⟨YB, 4, none⟩ = some (.int .i64 x.set.ttl) ∧ w'.cell? ⟨YB, 5, none⟩ = some (.int .i64 x.u) ∧ w'.cell? ⟨YB, 6, none⟩ = some (.int .i64 x.rank))) := fun w' k => ⟨(X.out.keeps k).seven.1, (Y.out.keeps k).seven.1⟩
      have HON := hide (fun W (k : Keeps W8 W) => One14_any (.slice xa xn xc) (.slice ya yn yc) x x W (XR.out.keeps k) (YR.out.keeps k) hl1.out)
      have HCH := hide (fun W (k : Keeps W8 W) => Changes_any p m s2 W (S.out.keeps k))
      rw [decide_eq_true rfl] at HON
      rw [hch] at HCH
      unfold itV at HON
      clear hch S X Y XR YR hl1
      have T := HT.out _ (Keeps.refl W8).drew
      have KK : Keeps W8 W8.drew := (Keeps.refl W8).drew
      go_region_held3 (fun w' => (w'.cell? ⟨XB, 0, none⟩ = some (.string x.set.key.n) ∧ w'.cell? ⟨XB, 1, none⟩ = some (.int .i64 x.set.key.t) ∧ w'.cell? ⟨XB, 2, none⟩ = some (.int .i64 x.set.key.c) ∧ w'.cell? ⟨XB, 3, none⟩ = some (.slice xa xn xc) ∧ w'.cell? ⟨XB, 4, none⟩ = some (.int .i64 x.set.ttl) ∧ w'.cell? ⟨XB, 5, none⟩ = some (.int .i64 x.u) ∧ w'.cell? ⟨XB, 6, none⟩ = some (.int .i64 x.rank)) ∧ (w'.cell? ⟨YB, 0, none⟩ = some (.string x.set.key.n) ∧ w'.cell? ⟨YB, 1, none⟩ = some (.int .i64 x.set.key.t) ∧ w'.cell? ⟨YB, 2, none⟩ = some (.int .i64 x.set.key.c) ∧ w'.cell? ⟨YB, 3, none⟩ = some (.slice ya yn yc) ∧ w'.cell? ⟨YB, 4, none⟩ = some (.int .i64 x.set.ttl) ∧ w'.cell? ⟨YB, 5, none⟩ = some (.int .i64 x.u) ∧ w'.cell? ⟨YB, 6, none⟩ = some (.int .i64 x.rank))) (exact T) ((first | (go_at_call 18; refine (told14_any _ _ _ _ _ _ _ _ _ _).mono ?_; rintro e w9 ⟨rfl, k5⟩; replace KK := Keeps.trans KK k5; replace T := HT.out _ KK; clear k5) | (go_at_call 17; refine (HON.out _ KK).mono ?_; rintro e w9 ⟨rfl, k5⟩; replace KK := Keeps.trans KK k5; replace T := HT.out _ KK; clear k5) | (go_at_call 26; refine (HCH.out _ KK).mono ?_; rintro e w9 ⟨rfl, rfl⟩) | (go_at_call 10; refine (live14_any _).mono ?_; rintro e w9 ⟨rfl, k5⟩; replace KK := Keeps.trans KK k5; replace T := HT.out _ KK; clear k5)))
      go_wp2
      go_ret
      exact ⟨rfl, K.out.trans KK⟩
  replace hz : c2 = 0 := by omega
  subst hz
  obtain ⟨g1, ⟨z, ho, hzr⟩, hch⟩ := f1.out rfl
  subst ho
  have hyr : y.rank = b.rank := by rw [hyx.out]; exact hzr
  rw [hyr] at Y
  have hL : L2 = true := hL2.out.symm
  subst hL
  have g2 : L1 = true → a.rank ≤ b.rank := g1
  replace g2 := hide g2
  clear f1 f2 f3 hL1 hL2 hyx hyr hzr g1
  replace hch := hide hch
  cases L1
  · clear g2
    obtain ⟨a0, a1, a2, a3, a4, a5, a6, a7⟩ := BA.out.eight
    obtain ⟨b0, b1, b2, b3, b4, b5, b6, b7⟩ := BB.out.eight
    obtain ⟨⟨y0, y1, y2, y3, y4, y5, y6⟩, _, _⟩ := Y.out.seven
    go_wp2_with fail
    refine (Changes_any p m s2 _ S.out).mono ?_
    rintro e w9 ⟨rfl, rfl⟩
    rw [hch.out]
    go_wp2_with fail
    refine (live14_any _).mono ?_
    rintro e wz ⟨rfl, kz⟩
    replace K := hide (K.out.trans kz)
    clear kz
    go_wp2
    go_ret
    exact ⟨rfl, K.out⟩
  · have hle : a.rank ≤ b.rank := g2.out rfl
    obtain ⟨a0, a1, a2, a3, a4, a5, a6, a7⟩ := BA.out.eight
    obtain ⟨b0, b1, b2, b3, b4, b5, b6, b7⟩ := BB.out.eight
    obtain ⟨⟨y0, y1, y2, y3, y4, y5, y6⟩, _, _⟩ := Y.out.seven
    go_wp2_with fail
    refine (Changes_any p m s2 _ S.out).mono ?_
    rintro e w9 ⟨rfl, rfl⟩
    rw [hch.out]
    go_wp2_with fail
    refine (live14_any _).mono ?_
    rintro e wz ⟨rfl, kz⟩
    replace K := hide (K.out.trans kz)
    clear kz
    go_wp2
    go_ret
    exact ⟨rfl, K.out⟩
end Go.Proofs.Ytgfaoaabnjblhaa
