/- A store: Put, whatever comes in; and the law's words on items. No condition but lengths. -/
import Derived.Test.YtgfaoaabnjblhaaStoV
namespace Go.Proofs.Ytgfaoaabnjblhaa
open Go.RowKit

theorem stOk_ttl {x : St} (h : stOk x = true) : 0 ≤ x.ttl := by
  rw [stOk_doc] at h
  simp only [Bool.and_eq_true, decide_eq_true_eq] at h
  omega
theorem till_neg {now : Int} {x : St} (h : Ag.till now x.ttl < 0) : (Ag.isT now && stOk x) = false := by
  unfold Ag.till at h
  split at h
  · rename_i hh
    simp only [Bool.and_eq_true, Ag.isT, decide_eq_true_eq] at hh
    omega
  · rename_i hh
    cases hs : stOk x
    · simp
    · have := stOk_ttl hs
      have : decide (0 ≤ x.ttl) = true := decide_eq_true this
      rw [this] at hh
      simpa using hh
theorem till_pos {now : Int} {x : St} (h : ¬ Ag.till now x.ttl < 0) : Ag.isT now = true := by
  unfold Ag.till at h
  split at h
  · rename_i hh
    simp only [Bool.and_eq_true] at hh
    exact hh.1
  · omega

theorem Put_any (p m : Nat) (s : Sto) (now : Int) (v : Value) (x : St) (rank : Int) (w : World) (hx : StAt w v x) (hf : StFine x) (hin : StIn x) (h : SAt w p m s) (hd6 : x.ds.length ≤ 1000000) (hch : s.changes ≤ 1099511627776) :
    Calls Try.prog 14 #[.pointer (some ⟨p, 0, none⟩), .int .i64 now, v, .int .i64 rank] w fun e w' => PutEnd w p m (Sto.putE s now x rank) (Sto.put s now x rank) e w' := by
  have bad : ∀ c, Sto.putE s now x rank = c → c ≠ 0 → ∀ e w', (e = .returned (.int .i64 c) ∧ Keeps w w') → PutEnd w p m (Sto.putE s now x rank) (Sto.put s now x rank) e w' := by
    rintro c hc h0 e w' ⟨rfl, k⟩
    have : Sto.put s now x rank = s := by unfold Sto.put; rw [hc, if_neg h0]
    rw [this, hc]
    exact ⟨rfl, h.keeps k, KB.of k⟩
  by_cases h1 : Ag.till now x.ttl < 0
  · have hc : Sto.putE s now x rank = 1 := by
      unfold Sto.putE
      rw [till_neg h1]; simp
    exact (Put_arg1 p m s now v x rank w hx hf hin h h1).mono (bad 1 hc (by decide))
  have ht := till_pos h1
  cases h2 : stOk x
  · have hc : Sto.putE s now x rank = 1 := by unfold Sto.putE; rw [h2]; simp
    exact (Put_arg2 p m s now v x rank w hx hf hin h h1 h2).mono (bad 1 hc (by decide))
  cases h3 : Rk.isR rank
  · have hc : Sto.putE s now x rank = 1 := by unfold Sto.putE; rw [h3]; simp
    exact (Put_arg3 p m s now v x rank w hx hf hin h h1 h2 h3).mono (bad 1 hc (by decide))
  cases h4 : Ag.live now (Ag.till now x.ttl)
  · have hc : Sto.putE s now x rank = 14 := by unfold Sto.putE; rw [ht, h2, h3, h4]; simp
    exact (Put_time p m s now v x rank w hx hf hin h h1 h2 h3 h4).mono (bad 14 hc (by decide))
  have hy : Sto.putE s now x rank = if Sto.yields s now x.key rank = true then 0 else 10 := by
    unfold Sto.putE Sto.yields
    rw [ht, h2, h3, h4]
    simp only [Bool.and_self, if_true]
    cases Sto.find s.items x.key <;> rfl
  cases h5 : Sto.yields s now x.key rank
  · have hc : Sto.putE s now x rank = 10 := by rw [hy, h5]; rfl
    exact (Put_rank p m s now v x rank w hx hf hin h h1 h2 h3 h4 h5).mono (bad 10 hc (by decide))
  · have hc : Sto.putE s now x rank = 0 := by rw [hy, h5]; rfl
    have hp : Sto.put s now x rank = ⟨s.room, Sto.cut (Sto.without s.items x.key ++ [⟨x, Ag.till now x.ttl, rank⟩]) s.room, s.changes + 1⟩ := by unfold Sto.put; rw [hc, if_pos rfl]
    rw [hc, hp]
    exact Put_ok p m s now v x rank w hx hf hin h h1 h2 h3 h4 h5 hd6 hch

set_option maxHeartbeats 8000000 in
set_option maxRecDepth 100000 in
theorem told14_any (n : ByteArray) (t c ttl u rk : Int) (a : Option Addr) (l cp : Nat) (w : World) :
    Calls Try.prog 18 #[.agg #[.string n, .int .i64 t, .int .i64 c, .slice a l cp, .int .i64 ttl, .int .i64 u, .int .i64 rk]] w fun e w' => e = .returned (.agg #[.string n, .int .i64 t, .int .i64 c, .slice a l cp, .int .i64 ttl, .int .i64 u, .int .i64 rk]) ∧ Keeps w w' := by
  have A := hide ((Blk.made w #[.string n, .int .i64 t, .int .i64 c, .slice a l cp, .int .i64 ttl, .int .i64 u, .int .i64 rk] 46).alloc (.cells #[.string ⟨#[]⟩, .int .i64 0, .int .i64 0, .slice none 0 0, .int .i64 0, .int .i64 0, .int .i64 0] 43))
  have R := Blk.made (w.alloc (.cells #[.string n, .int .i64 t, .int .i64 c, .slice a l cp, .int .i64 ttl, .int .i64 u, .int .i64 rk] 46)) #[.string ⟨#[]⟩, .int .i64 0, .int .i64 0, .slice none 0 0, .int .i64 0, .int .i64 0, .int .i64 0] 43
  rw [size_allocG] at R
  replace R := hide R
  have K := hide (((Keeps.refl w).alloc (.cells #[.string n, .int .i64 t, .int .i64 c, .slice a l cp, .int .i64 ttl, .int .i64 u, .int .i64 rk] 46)).alloc (.cells #[.string ⟨#[]⟩, .int .i64 0, .int .i64 0, .slice none 0 0, .int .i64 0, .int .i64 0, .int .i64 0] 43))
  go_enter Try.func18, Try.ntmps18
  go_upto_region 1 with fail
  generalize (w.alloc (.cells #[.string n, .int .i64 t, .int .i64 c, .slice a l cp, .int .i64 ttl, .int .i64 u, .int .i64 rk] 46)).alloc (.cells #[.string ⟨#[]⟩, .int .i64 0, .int .i64 0, .slice none 0 0, .int .i64 0, .int .i64 0, .int .i64 0] 43) = W at *
  have hle : Hid (w.heap.size ≤ w.heap.size + 1) := Nat.le_succ _
  generalize w.heap.size + 1 = G at *
  generalize hF : w.heap.size = F at A ⊢
  replace hF := hide hF
  obtain ⟨⟨a0, a1, a2, a3, a4, a5, a6⟩, _, _⟩ := A.out.seven
  obtain ⟨⟨r0, r1, r2, r3, r4, r5, r6⟩, ⟨g0, g1, g2, g3, g4, g5, g6⟩, _⟩ := R.out.seven
  have R3 := hide (set7_blk R.out (.string n) (.int .i64 t) (.int .i64 c) (.slice a l cp) (.int .i64 ttl) (.int .i64 u) (.int .i64 rk))
  have K3 := hide (set7_keeps K.out hle.out (.string n) (.int .i64 t) (.int .i64 c) (.slice a l cp) (.int .i64 ttl) (.int .i64 u) (.int .i64 rk))
  unfold set7 at R3 K3
  clear A R K
  go_wp2_with fail
  generalize ((((((W.setCell ⟨G, 0, none⟩ (.string n)).setCell ⟨G, 1, none⟩ (.int .i64 t)).setCell ⟨G, 2, none⟩ (.int .i64 c)).setCell ⟨G, 3, none⟩ (.slice a l cp)).setCell ⟨G, 4, none⟩ (.int .i64 ttl)).setCell ⟨G, 5, none⟩ (.int .i64 u)).setCell ⟨G, 6, none⟩ (.int .i64 rk) = W9 at *
  obtain ⟨⟨s0, s1, s2, s3, s4, s5, s6⟩, _, _⟩ := R3.out.seven
  exact bodyPost_ret (v := .agg #[.string n, .int .i64 t, .int .i64 c, .slice a l cp, .int .i64 ttl, .int .i64 u, .int .i64 rk]) (by simp [results, Try.results18, go_sem, s0, s1, s2, s3, s4, s5, s6]) rfl ⟨rfl, K3.out⟩

theorem it_eq (a b : It) : decide (a = b) = (decide (a.set = b.set) && decide (a.u = b.u) && decide (a.rank = b.rank)) := by
  rw [Bool.eq_iff_iff]
  simp only [Bool.and_eq_true, decide_eq_true_eq]
  constructor
  · rintro rfl; exact ⟨⟨rfl, rfl⟩, rfl⟩
  · rintro ⟨⟨h1, h2⟩, h3⟩
    cases a; cases b
    simp only at h1 h2 h3
    subst h1 h2 h3
    rfl
set_option maxHeartbeats 8000000 in
set_option maxRecDepth 100000 in
theorem One14_any (vd ud : Value) (a b : It) (w : World) (hv : ReadS w vd a.set.ds) (hu : ReadS w ud b.set.ds) (hl : a.set.ds.length ≤ 1099511627776) :
    Calls Try.prog 17 #[itV a vd, itV b ud] w fun e w' => e = .returned (.bool (decide (a = b))) ∧ Keeps w w' := by
  have HS := hide (fun W (kk : Keeps w W) => refGSame_any _ _ a.set b.set W (StAt.keeps ⟨vd, rfl, hv⟩ kk) (StAt.keeps ⟨ud, rfl, hu⟩ kk) hl)
  obtain ⟨va, vc, rfl⟩ := hv.len
  obtain ⟨ua, uc, rfl⟩ := hu.len
  have HE := hide (it_eq a b)
  generalize decide (a = b) = R at *
  generalize decide (a.set = b.set) = DS at *
  unfold itV
  have A := hide ((Blk.made w #[.string a.set.key.n, .int .i64 a.set.key.t, .int .i64 a.set.key.c, .slice va a.set.ds.length vc, .int .i64 a.set.ttl, .int .i64 a.u, .int .i64 a.rank] 43).alloc (.cells #[.string b.set.key.n, .int .i64 b.set.key.t, .int .i64 b.set.key.c, .slice ua b.set.ds.length uc, .int .i64 b.set.ttl, .int .i64 b.u, .int .i64 b.rank] 43))
  have B := Blk.made (w.alloc (.cells #[.string a.set.key.n, .int .i64 a.set.key.t, .int .i64 a.set.key.c, .slice va a.set.ds.length vc, .int .i64 a.set.ttl, .int .i64 a.u, .int .i64 a.rank] 43)) #[.string b.set.key.n, .int .i64 b.set.key.t, .int .i64 b.set.key.c, .slice ua b.set.ds.length uc, .int .i64 b.set.ttl, .int .i64 b.u, .int .i64 b.rank] 43
  rw [size_allocG] at B
  replace B := hide B
  have K := hide (((Keeps.refl w).alloc (.cells #[.string a.set.key.n, .int .i64 a.set.key.t, .int .i64 a.set.key.c, .slice va a.set.ds.length vc, .int .i64 a.set.ttl, .int .i64 a.u, .int .i64 a.rank] 43)).alloc (.cells #[.string b.set.key.n, .int .i64 b.set.key.t, .int .i64 b.set.key.c, .slice ua b.set.ds.length uc, .int .i64 b.set.ttl, .int .i64 b.u, .int .i64 b.rank] 43))
  go_enter Try.func17, Try.ntmps17
  go_upto_region 1 with fail
  generalize (w.alloc (.cells #[.string a.set.key.n, .int .i64 a.set.key.t, .int .i64 a.set.key.c, .slice va a.set.ds.length vc, .int .i64 a.set.ttl, .int .i64 a.u, .int .i64 a.rank] 43)).alloc (.cells #[.string b.set.key.n, .int .i64 b.set.key.t, .int .i64 b.set.key.c, .slice ua b.set.ds.length uc, .int .i64 b.set.ttl, .int .i64 b.u, .int .i64 b.rank] 43) = W at *
  generalize w.heap.size + 1 = G at *
  generalize hF : w.heap.size = F at A ⊢
  replace hF := hide hF
  obtain ⟨⟨a0, a1, a2, a3, a4, a5, a6⟩, _, _⟩ := A.out.seven
  obtain ⟨⟨b0, b1, b2, b3, b4, b5, b6⟩, _, _⟩ := B.out.seven
  go_wp2_with fail
  refine (HS.out _ K.out).mono ?_
  rintro e w1 ⟨rfl, k1⟩
  replace A := hide (A.out.keeps k1)
  replace B := hide (B.out.keeps k1)
  replace K := hide (K.out.trans k1)
  clear k1 a0 a1 a2 a3 a4 a5 a6 b0 b1 b2 b3 b4 b5 b6 HS
  obtain ⟨⟨a0, a1, a2, a3, a4, a5, a6⟩, _, _⟩ := A.out.seven
  obtain ⟨⟨b0, b1, b2, b3, b4, b5, b6⟩, _, _⟩ := B.out.seven
  generalize a.u = au at *
  generalize b.u = bu at *
  generalize a.rank = ar at *
  generalize b.rank = br at *
  cases DS
  · go_wp2
    go_ret
    exact ⟨ret_bool (by rw [HE.out]; rfl), K.out⟩
  by_cases h1 : au = bu
  · have hb1 : (au == bu) = true := by rw [h1]; simp
    by_cases h2 : ar = br
    · have hb2 : (ar == br) = true := by rw [h2]; simp
      have hr : R = true := by rw [HE.out, decide_eq_true h1, decide_eq_true h2]; rfl
      replace hr := hide hr
      replace h1 := hide h1
      replace h2 := hide h2
      go_wp2
      go_ret
      exact ⟨ret_bool hr.out.symm, K.out⟩
    · have hb2 : (ar == br) = false := by rw [beq_eq_false_iff_ne]; exact h2
      have hr : R = false := by rw [HE.out, decide_eq_true h1, decide_eq_false h2]; rfl
      replace hr := hide hr
      replace h1 := hide h1
      replace h2 := hide h2
      go_wp2
      go_ret
      exact ⟨ret_bool hr.out.symm, K.out⟩
  · have hb1 : (au == bu) = false := by rw [beq_eq_false_iff_ne]; exact h1
    have hr : R = false := by rw [HE.out, decide_eq_false h1]; rfl
    replace hr := hide hr
    replace h1 := hide h1
    go_wp2
    go_ret
    exact ⟨ret_bool hr.out.symm, K.out⟩

/-- A block below the store's own is written: the store is as it was. -/
theorem SAt.setFar {w : World} {p m : Nat} {s : Sto} (h : SAt w p m s) {x : Addr} (hp : x.block < p) (hm : x.block ≠ m) (u : Value) : SAt (w.setCell x u) p m s := by
  obtain ⟨h1, h2, v, n, f, h3, h4, h5, h6, h7, h8⟩ := h
  refine ⟨h1, h2, v, n, f, h3.other (by omega) u, h4.setOther (fun a k c e => by have := (h5 a k c e).2.2; omega) u, h5, h6.same (Below.heap_setCell _ _ _ _ (fun e => hm e.symm)), h7, fun q => ?_⟩
  have h := h8 q
  cases hf : Sto.find s.items q with
  | none => rw [hf] at h; exact (show f q = none from h)
  | some i =>
    rw [hf] at h
    obtain ⟨vd, e1, e2, e3⟩ := h
    exact ⟨vd, e1, readS_of_tv ((readS_tv e2).setOther (fun a k c e => by have := (e3 a k c e).2.2; omega) u), e3⟩
end Go.Proofs.Ytgfaoaabnjblhaa
