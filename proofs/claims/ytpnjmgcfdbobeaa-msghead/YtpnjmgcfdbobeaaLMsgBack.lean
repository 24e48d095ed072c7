/- MsgBack answers true, for every input: the walk. -/
import Derived.Test.YtpnjmgcfdbobeaaMsgLive
import Derived.Test.YtpnjmgcfdbobeaaMsgR3
import Derived.Test.YtpnjmgcfdbobeaaMsgM
import Derived.Test.YtpnjmgcfdbobeaaShapesM
namespace Go.Proofs.Ytpnjmgcfdbobeaa
open Go.RowKit

/-- Two records that are the same but for letters of their names. -/
def AlikeR (x y : Rec) : Prop := x.t = y.t ∧ x.c = y.c ∧ x.l = y.l ∧ x.d = y.d ∧ Nm.sameB (bl x.n) (bl y.n) = true

set_option maxHeartbeats 8000000 in
set_option maxRecDepth 100000 in
theorem alike_any (v u : Value) (l k : List Rec) (w : World) (hv : ReadRow w v 5 (l.map recL8)) (hu : ReadRow w u 5 (k.map recL8)) (hlen : l.length = k.length) (hk : k.length ≤ 65535)
    (hal : ∀ j (h1 : j < l.length) (h2 : j < k.length), AlikeR l[j] k[j]) (hn : ∀ x ∈ l, x.n.size ≤ maxLen) (hm : ∀ x ∈ k, x.n.size ≤ maxLen) :
    Calls Try.prog 21 #[v, u] w fun e w' => e = .returned (.bool true) ∧ Keeps w w' := by
  obtain ⟨a, cap, h1⟩ := hv.len
  obtain ⟨a2, cap2, h2⟩ := hu.len
  rw [List.length_map] at h1 h2
  subst h1 h2
  have hne : ((l.length : Int) != (k.length : Int)) = false := by rw [hlen]; simp
  have hle1 : l.length ≤ k.length := by omega
  have hle2 : k.length ≤ l.length := by omega
  have HL := hide hal
  have HN := hide hn
  have HM := hide hm
  clear hlen hal hn hm
  go_enter Try.func21, Try.ntmps21
  go_wp2
  go_loopw [5] (fun i wr => ∃ j : Nat, j ≤ l.length ∧ i = .int .i64 j ∧ Keeps w wr) (fun i _ => l.length - (intOf i).toNat)
  case atStart => exact ⟨0, by omega, rfl, Keeps.refl _⟩
  case round =>
    obtain ⟨j, hj, rfl, K⟩ := hrel
    by_cases hlt : j < l.length
    · have hv2 := hv.keeps K
      have hu2 := hu.keeps K
      have hlt2 : j < k.length := by omega
      have i2 : (j : Int) < (l.length : Int) := by omega
      have i3 : (j : Int) < (k.length : Int) := by omega
      have i0 : (0 : Int) ≤ (j : Int) := by omega
      obtain ⟨b, off, rfl, _, _⟩ := hv2.parts (by rw [List.length_map]; omega)
      obtain ⟨b2, off2, rfl, _, _⟩ := hu2.parts (by rw [List.length_map]; omega)
      obtain ⟨c0, c1, c2, c3, c4⟩ := row5 hv2 hlt
      obtain ⟨e0, e1, e2, e3, e4⟩ := row5 hu2 hlt2
      have HT := hide (fun w' (h : Keeps w w') => (⟨(row5 (hv.keeps h) hlt).1, row5 (hu.keeps h) hlt2⟩ : _ ∧ _))
      have hA := HL.out j hlt hlt2
      have s1 := HN.out _ (List.getElem_mem hlt)
      have s2 := HM.out _ (List.getElem_mem hlt2)
      generalize hoo : off + j * 5 = o at *
      generalize hoo2 : off2 + j * 5 = o2 at *
      generalize l[j] = x at *
      generalize k[j] = y at *
      obtain ⟨xn, xt, xc, xl, xd⟩ := x
      obtain ⟨q1, q2, q3, q4, q5⟩ := hA
      simp only at q1 q2 q3 q4 q5
      subst q1 q2 q3 q4
      simp only at c0 c1 c2 c3 c4 HT s1
      have HS := hide (fun W => refsame_any xn y.n W s1 s2)
      rw [q5] at HS
      have rn := neq_rec y y
      rw [decide_eq_true rfl] at rn
      have B := Blk.made wr #[.string y.n, .int .i64 y.t, .int .i64 y.c, .int .i64 y.l, .string y.d] 44
      have K2 := K.alloc (.cells #[.string y.n, .int .i64 y.t, .int .i64 y.c, .int .i64 y.l, .string y.d] 44)
      replace B := hide B
      replace K2 := hide K2
      clear hv2 hu2 hv hu HL HN HM q5
      go_wp2_with fail
      generalize wr.alloc (.cells #[.string y.n, .int .i64 y.t, .int .i64 y.c, .int .i64 y.l, .string y.d] 44) = W at *
      generalize wr.heap.size = G at *
      clear c0 c1 c2 c3 c4 e0 e1 e2 e3 e4
      have KD : Keeps w W.drew := K2.out.drew
      have HB : Hid (∀ w', Keeps W.drew w' → w'.cell? ⟨b, o, none⟩ = some (.string xn) ∧ w'.cell? ⟨b2, o2, none⟩ = some (.string y.n) ∧ w'.cell? ⟨b2, o2 + 1, none⟩ = some (.int .i64 y.t) ∧ w'.cell? ⟨b2, o2 + 2, none⟩ = some (.int .i64 y.c) ∧ w'.cell? ⟨b2, o2 + 3, none⟩ = some (.int .i64 y.l) ∧ w'.cell? ⟨b2, o2 + 4, none⟩ = some (.string y.d) ∧ w'.cell? ⟨G, 0, none⟩ = some (.string y.n) ∧ w'.cell? ⟨G, 1, none⟩ = some (.int .i64 y.t) ∧ w'.cell? ⟨G, 2, none⟩ = some (.int .i64 y.c) ∧ w'.cell? ⟨G, 3, none⟩ = some (.int .i64 y.l) ∧ w'.cell? ⟨G, 4, none⟩ = some (.string y.d)) := fun w' h => by
        have h1 := HT.out w' (KD.trans h)
        have h2 := B.out.drew.keeps h
        exact ⟨h1.1, h1.2.1, h1.2.2.1, h1.2.2.2.1, h1.2.2.2.2.1, h1.2.2.2.2.2, h2.cell 0, h2.cell 1, h2.cell 2, h2.cell 3, h2.cell 4⟩
      have T := HB.out _ (Keeps.refl _)
      have KK : Keeps W.drew W.drew := Keeps.refl _
      clear B K2 HT
      go_region_held3 (fun w' => w'.cell? ⟨b, o, none⟩ = some (.string xn) ∧ w'.cell? ⟨b2, o2, none⟩ = some (.string y.n) ∧ w'.cell? ⟨b2, o2 + 1, none⟩ = some (.int .i64 y.t) ∧ w'.cell? ⟨b2, o2 + 2, none⟩ = some (.int .i64 y.c) ∧ w'.cell? ⟨b2, o2 + 3, none⟩ = some (.int .i64 y.l) ∧ w'.cell? ⟨b2, o2 + 4, none⟩ = some (.string y.d) ∧ w'.cell? ⟨G, 0, none⟩ = some (.string y.n) ∧ w'.cell? ⟨G, 1, none⟩ = some (.int .i64 y.t) ∧ w'.cell? ⟨G, 2, none⟩ = some (.int .i64 y.c) ∧ w'.cell? ⟨G, 3, none⟩ = some (.int .i64 y.l) ∧ w'.cell? ⟨G, 4, none⟩ = some (.string y.d)) (exact T) ((go_at_call 50; refine (HS.out _).mono ?_; rintro e w7 ⟨rfl, k7⟩; replace KK := KK.trans k7; replace T := HB.out _ KK))
      have KF := hide (KD.trans KK)
      clear T HB KD KK
      go_wp2
      go_roundw
      case rel => exact ⟨j + 1, by omega, by go_num, KF.out⟩
      case measure => simp [intOf]; omega
    · obtain rfl : j = l.length := by omega
      go_wp2
      go_ret
      exact ⟨rfl, K⟩

theorem small_fine {m : Ms} (h : smallM m = true) : m.qs.length + m.an.length + m.ns.length + m.ar.length ≤ 200 := by
  simp only [smallM, Bool.and_eq_true, decide_eq_true_eq] at h
  exact h.1.1.1.1
theorem enc_zero {m : Ms} (h : (encM m).2 = 0) : msOk m = true ∧ ¬ 65535 < (encT m).size ∧ encM m = (encT m, 0) := by
  unfold encM at h ⊢
  by_cases h1 : msOk m = true
  · rw [if_pos h1] at h ⊢
    by_cases h2 : 65535 < (encT m).size
    · rw [if_pos h2] at h; simp at h
    · rw [if_neg h2]; exact ⟨h1, h2, rfl⟩
  · rw [if_neg h1] at h; simp at h
theorem enc_bad {m : Ms} (h : ¬ (encM m).2 = 0) : encM m = (⟨#[]⟩, 6) ∨ (encM m = (⟨#[]⟩, 1) ∧ msOk m = false) := by
  unfold encM at h ⊢
  by_cases h1 : msOk m = true
  · rw [if_pos h1] at h ⊢
    by_cases h2 : 65535 < (encT m).size
    · rw [if_pos h2]; exact .inl rfl
    · rw [if_neg h2] at h; simp at h
  · rw [if_neg h1]; exact .inr ⟨rfl, by simpa using h1⟩
theorem enc_bytes {m : Ms} (hok : msOk m = true) (hfit : ¬ 65535 < (encT m).size) : bl (encT m) = bl (Oct.putS m.id (2 : Nat)) ++ (bl (encT m)).drop 2 := by
  have hi : num2 m.id = true := by simp only [msOk, Bool.and_eq_true] at hok; exact hok.1.1.1.1.1
  have h : bl (encT m) = bl (Oct.putS m.id (2 : Nat)) ++ (bl (encT m)).drop (bl (Oct.putS m.id (2 : Nat))).length := by
    have hp : ∃ y, bl (encT m) = bl (Oct.putS m.id (2 : Nat)) ++ y := by
      rw [encT, appR_full _ _ _ hfit, appQ_full, headS]
      simp only [bl_append, List.append_assoc]
      exact ⟨_, rfl⟩
    obtain ⟨y, hy⟩ := hp
    rw [hy, List.drop_left]
  rwa [put_bl_len (num_ok' hi)] at h
theorem dec_same {m : Ms} (hok : msOk m = true) (hfit : ¬ 65535 < (encT m).size) : decM (encT m) = (⟨m.id, m.bits, m.qs, m.an.map (relR (baseS m)), m.ns.map (relR (baseS m)), m.ar.map (relR (baseS m))⟩, 0) :=
  dec_msg m hok hfit m.id (by simp only [msOk, Bool.and_eq_true] at hok; exact hok.1.1.1.1.1) (encT m) (enc_bytes hok hfit)

/-- Three lists of records, where they stand. -/
structure Rows3 (w : World) (va vn vr : Value) (la ln lr : List (List Value)) : Prop where
  a : ReadRow w va 5 la
  n : ReadRow w vn 5 ln
  r : ReadRow w vr 5 lr
theorem Rows3.keeps {w w' : World} {va vn vr : Value} {la ln lr : List (List Value)} (h : Rows3 w va vn vr la ln lr) (k : Keeps w w') : Rows3 w' va vn vr la ln lr := ⟨h.a.keeps k, h.n.keeps k, h.r.keeps k⟩
theorem MsAt.rows {w : World} {i b : Int} {vq va vn vr : Value} {m : Ms} (h : MsAt w (.agg #[.int .i64 i, .int .i64 b, vq, va, vn, vr]) m) : i = m.id ∧ b = m.bits ∧ ReadRow w vq 3 (m.qs.map qnL) ∧ ReadRow w va 5 (m.an.map recL8) ∧ ReadRow w vn 5 (m.ns.map recL8) ∧ ReadRow w vr 5 (m.ar.map recL8) := by
  obtain ⟨vq', va', vn', vr', he, h1, h2, h3, h4⟩ := h
  simp only [Value.agg.injEq, Array.mk.injEq, List.cons.injEq, Value.int.injEq, true_and, and_true] at he
  obtain ⟨rfl, rfl, rfl, rfl, rfl, rfl⟩ := he
  exact ⟨rfl, rfl, h1, h2, h3, h4⟩
theorem MsAt.form {w : World} {v : Value} {m : Ms} (h : MsAt w v m) : ∃ aq kq aa ka an kn ar kr, v = .agg #[.int .i64 m.id, .int .i64 m.bits, .slice aq m.qs.length kq, .slice aa m.an.length ka, .slice an m.ns.length kn, .slice ar m.ar.length kr] := by
  obtain ⟨vq, va, vn, vr, rfl, rq, ra, rn, rr⟩ := h
  obtain ⟨aq, kq, h1⟩ := rq.len
  obtain ⟨aa, ka, h2⟩ := ra.len
  obtain ⟨an, kn, h3⟩ := rn.len
  obtain ⟨ar, kr, h4⟩ := rr.len
  rw [List.length_map] at h1 h2 h3 h4
  subst h1 h2 h3 h4
  exact ⟨aq, kq, aa, ka, an, kn, ar, kr, rfl⟩
theorem base_ok {m : Ms} (hok : msOk m = true) : Nm.okL (bl (baseS m)) = true := by
  simp only [msOk, Bool.and_eq_true, List.all_eq_true] at hok
  unfold baseS
  split
  · decide
  · rename_i q l e
    have := hok.1.1.1.2.2 q (by rw [e]; simp)
    simp only [qnOk, Bool.and_eq_true] at this
    exact this.1.1
theorem rel_alike {m : Ms} (hok : msOk m = true) {r : Rec} (hr : recOk r = true) : AlikeR (relR (baseS m) r) r ∧ (relR (baseS m) r).n.size ≤ 255 := by
  have he : encOk (baseS m) 12 r = true := by
    have := ((recOk_spec r).1 hr).1
    simp [encOk, hr, Cm.wrOk, base_ok hok, this]
  obtain ⟨h1, h2, h3, h4, h5, h6⟩ := relR_spec he
  have := ((Nm.okL_spec _).1 h6).1
  rw [bl_length] at this
  exact ⟨⟨h1, h2, h3, h4, h5⟩, this⟩
theorem alike_rel {m : Ms} (hok : msOk m = true) (v u : Value) (k : List Rec) (w : World) (hv : ReadRow w v 5 ((k.map (relR (baseS m))).map recL8)) (hu : ReadRow w u 5 (k.map recL8)) (hk : k.length ≤ 65535) (ho : ∀ r ∈ k, recOk r = true) (hm : ∀ x ∈ k, x.n.size ≤ maxLen) :
    Calls Try.prog 21 #[v, u] w fun e w' => e = .returned (.bool true) ∧ Keeps w w' := by
  refine alike_any v u (k.map (relR (baseS m))) k w hv hu (by simp) hk ?_ ?_ hm
  · intro j h1 h2
    rw [List.getElem_map]
    exact (rel_alike hok (ho _ (List.getElem_mem h2))).1
  · intro x hx
    rw [List.mem_map] at hx
    obtain ⟨r, hr, rfl⟩ := hx
    have := (rel_alike hok (ho r hr)).2
    unfold maxLen; omega

set_option maxHeartbeats 8000000 in
set_option maxRecDepth 100000 in
theorem MsgBack_walk (v : Value) (m : Ms) (w : World) (hM : MsAt w v m) (hf : MsFine m) (_ : MsIn m) (hz : m.qs.length ≤ reachBytes ∧ m.an.length ≤ reachBytes ∧ m.ns.length ≤ reachBytes ∧ m.ar.length ≤ reachBytes) :
    Calls Try.prog 5 #[v] w fun e w' => e = .returned (.bool true) ∧ Keeps w w' := by
  have hsum : m.qs.length + m.an.length + m.ns.length + m.ar.length ≤ 9223372036854775807 := by
    have : reachBytes ≤ 140737488355328 := by decide
    omega
  obtain ⟨aq, kq, aa, ka, an, kn, ar, kr, rfl⟩ := hM.form
  have HS := hide (fun W (k : Keeps w W) => Small_any _ m W (hM.keeps k) hf hsum)
  have HE := hide (fun W (k : Keeps w W) => Encode_any _ m W (hM.keeps k) hf)
  have HC := hide (fun W (k : Keeps w W) => Check_any _ m W (hM.keeps k) hf)
  have B := hide (Blk.made w #[.int .i64 m.id, .int .i64 m.bits, .slice aq m.qs.length kq, .slice aa m.an.length ka, .slice an m.ns.length kn, .slice ar m.ar.length kr] 26)
  have K := hide ((Keeps.refl w).alloc (.cells #[.int .i64 m.id, .int .i64 m.bits, .slice aq m.qs.length kq, .slice aa m.an.length ka, .slice an m.ns.length kn, .slice ar m.ar.length kr] 26))
  have HM := hide hM
  clear hM hz hsum
  go_enter Try.func5, Try.ntmps5
  go_wp2_with fail
  generalize w.alloc (.cells #[.int .i64 m.id, .int .i64 m.bits, .slice aq m.qs.length kq, .slice aa m.an.length ka, .slice an m.ns.length kn, .slice ar m.ar.length kr] 26) = W at *
  generalize w.heap.size = M at *
  refine (HS.out _ K.out).mono ?_
  rintro e w1 ⟨rfl, k1⟩
  replace B := hide (B.out.keeps k1)
  replace K := hide (K.out.trans k1)
  clear k1 HS
  cases hsm : smallM m
  · go_wp2_with fail
    refine (live8_any _).mono ?_
    rintro e w2 ⟨rfl, k1⟩
    go_wp2
    go_ret
    exact ⟨rfl, K.out.trans k1⟩
  obtain ⟨y0, y1, y2, y3, y4, y5, y6⟩ := B.out.six6
  go_wp2_with fail
  refine (HE.out _ K.out).mono ?_
  rintro e w2 ⟨rfl, k1⟩
  replace B := hide (B.out.keeps k1)
  replace K := hide (K.out.trans k1)
  clear k1 HE y0 y1 y2 y3 y4 y5 y6
  by_cases he : (encM m).2 = 0
  · obtain ⟨hok, hfit, hem⟩ := enc_zero he
    rw [hem]
    clear he hem HC
    have hsz : (encT m).size ≤ maxLen := by unfold maxLen; omega
    have hD := dec_same hok hfit
    have HD := hide (fun W => Decode_any (encT m) W hsz)
    rw [hD] at HD
    obtain ⟨o1, o2, o3, o4, o5, _, _, _⟩ := qs_fine hok
    have hrecs : (∀ r ∈ m.an, recOk r = true) ∧ (∀ r ∈ m.ns, recOk r = true) ∧ (∀ r ∈ m.ar, recOk r = true) := by
      have h := hok
      simp only [msOk, Bool.and_eq_true, List.all_eq_true] at h
      exact ⟨h.1.1.2.2, h.1.2.2, h.2.2⟩
    have HA1 := hide (fun (v u : Value) (W : World) h1 h2 => alike_rel hok v u m.an W h1 h2 o3 hrecs.1 (fun x hx => (hf.2.1.2 x hx).1))
    have HA2 := hide (fun (v u : Value) (W : World) h1 h2 => alike_rel hok v u m.ns W h1 h2 o4 hrecs.2.1 (fun x hx => (hf.2.2.1.2 x hx).1))
    have HA3 := hide (fun (v u : Value) (W : World) h1 h2 => alike_rel hok v u m.ar W h1 h2 o5 hrecs.2.2 (fun x hx => (hf.2.2.2.2 x hx).1))
    clear hD hsz hfit
    generalize encT m = s at *
    obtain ⟨D, hDe⟩ : ∃ D : Ms, D = ⟨m.id, m.bits, m.qs, m.an.map (relR (baseS m)), m.ns.map (relR (baseS m)), m.ar.map (relR (baseS m))⟩ := ⟨_, rfl⟩
    rw [← hDe] at HD
    have HDe := hide hDe
    clear hDe
    go_wp2_with fail
    refine (HD.out _).mono ?_
    intro e w3 hE
    obtain ⟨bq, lq, ba, la, bn, ln, br, lr, rfl, Mk, k1⟩ := live_dec hE rfl
    clear hE HD
    replace B := hide (B.out.keeps k1)
    replace K := hide (K.out.trans k1)
    clear k1
    have Bk := hide ((Blk.made w3 #[.int .i64 D.id, .int .i64 D.bits, .slice bq D.qs.length lq, .slice ba D.an.length la, .slice bn D.ns.length ln, .slice br D.ar.length lr] 26).alloc (.cells #[.int .i64 D.id, .int .i64 D.bits, .slice bq D.qs.length lq, .slice aa m.an.length ka, .slice an m.ns.length kn, .slice ar m.ar.length kr] 26))
    have Bx := Blk.made (w3.alloc (.cells #[.int .i64 D.id, .int .i64 D.bits, .slice bq D.qs.length lq, .slice ba D.an.length la, .slice bn D.ns.length ln, .slice br D.ar.length lr] 26)) #[.int .i64 D.id, .int .i64 D.bits, .slice bq D.qs.length lq, .slice aa m.an.length ka, .slice an m.ns.length kn, .slice ar m.ar.length kr] 26
    rw [size_alloc] at Bx
    replace Bx := hide Bx
    have kk := ((Keeps.refl w3).alloc (.cells #[.int .i64 D.id, .int .i64 D.bits, .slice bq D.qs.length lq, .slice ba D.an.length la, .slice bn D.ns.length ln, .slice br D.ar.length lr] 26)).alloc (.cells #[.int .i64 D.id, .int .i64 D.bits, .slice bq D.qs.length lq, .slice aa m.an.length ka, .slice an m.ns.length kn, .slice ar m.ar.length kr] 26)
    obtain ⟨y0, y1, y2, y3, y4, y5, y6⟩ := B.out.six6
    replace B := hide (B.out.keeps kk)
    replace K := hide (K.out.trans kk)
    replace Mk := hide (Mk.keeps kk)
    clear kk
    go_wp2_with fail
    generalize (w3.alloc (.cells #[.int .i64 D.id, .int .i64 D.bits, .slice bq D.qs.length lq, .slice ba D.an.length la, .slice bn D.ns.length ln, .slice br D.ar.length lr] 26)).alloc (.cells #[.int .i64 D.id, .int .i64 D.bits, .slice bq D.qs.length lq, .slice aa m.an.length ka, .slice an m.ns.length kn, .slice ar m.ar.length kr] 26) = W4 at *
    generalize w3.heap.size = G3 at *
    have hq : D.qs = m.qs := by rw [HDe.out]
    have ha : D.an = m.an.map (relR (baseS m)) := by rw [HDe.out]
    have hn : D.ns = m.ns.map (relR (baseS m)) := by rw [HDe.out]
    have hr : D.ar = m.ar.map (relR (baseS m)) := by rw [HDe.out]
    obtain ⟨_, _, rq, ra, rn, rr⟩ := Mk.out.rows
    obtain ⟨_, _, sq, sa, sn, sr⟩ := (HM.out.keeps K.out).rows
    have Mx : MsAt W4 (.agg #[.int .i64 D.id, .int .i64 D.bits, .slice bq D.qs.length lq, .slice aa m.an.length ka, .slice an m.ns.length kn, .slice ar m.ar.length kr]) m := by
      refine ⟨_, _, _, _, ?_, Eq.mp (congrArg (fun z => ReadRow W4 (.slice bq D.qs.length lq) 3 (List.map qnL z)) hq) rq, sa, sn, sr⟩
      rw [HDe.out]
    have MkR := hide (Rows3.mk (Eq.mp (congrArg (fun z => ReadRow W4 (.slice ba D.an.length la) 5 (List.map recL8 z)) ha) ra) (Eq.mp (congrArg (fun z => ReadRow W4 (.slice bn D.ns.length ln) 5 (List.map recL8 z)) hn) rn) (Eq.mp (congrArg (fun z => ReadRow W4 (.slice br D.ar.length lr) 5 (List.map recL8 z)) hr) rr))
    have MmR := hide (Rows3.mk sa sn sr)
    refine (Same_any _ _ m m _ Mx (HM.out.keeps K.out) hf.lens hf.lens).mono ?_
    rintro e w5 ⟨rfl, k1⟩
    rw [decide_eq_true rfl]
    replace B := hide (B.out.keeps k1)
    replace Bk := hide (Bk.out.keeps k1)
    replace K := hide (K.out.trans k1)
    replace MkR := hide (MkR.out.keeps k1)
    replace MmR := hide (MmR.out.keeps k1)
    clear k1 hq ha hn hr rq ra rn rr sq sa sn sr Mx y0 y1 y2 y3 y4 y5 y6 Bx Mk
    obtain ⟨y0, y1, y2, y3, y4, y5, y6⟩ := B.out.six6
    obtain ⟨x0, x1, x2, x3, x4, x5, x6⟩ := Bk.out.six6
    go_wp2_with fail
    refine (HA1.out _ _ _ (MkR.out.a) (MmR.out.a)).mono ?_
    rintro e w6 ⟨rfl, k1⟩
    replace B := hide (B.out.keeps k1)
    replace Bk := hide (Bk.out.keeps k1)
    replace K := hide (K.out.trans k1)
    replace MkR := hide (MkR.out.keeps k1)
    replace MmR := hide (MmR.out.keeps k1)
    clear k1 y0 y1 y2 y3 y4 y5 y6 x0 x1 x2 x3 x4 x5 x6
    obtain ⟨y0, y1, y2, y3, y4, y5, y6⟩ := B.out.six6
    obtain ⟨x0, x1, x2, x3, x4, x5, x6⟩ := Bk.out.six6
    go_wp2_with fail
    refine (HA2.out _ _ _ (MkR.out.n) (MmR.out.n)).mono ?_
    rintro e w7 ⟨rfl, k1⟩
    replace B := hide (B.out.keeps k1)
    replace Bk := hide (Bk.out.keeps k1)
    replace K := hide (K.out.trans k1)
    replace MkR := hide (MkR.out.keeps k1)
    replace MmR := hide (MmR.out.keeps k1)
    clear k1 y0 y1 y2 y3 y4 y5 y6 x0 x1 x2 x3 x4 x5 x6
    obtain ⟨y0, y1, y2, y3, y4, y5, y6⟩ := B.out.six6
    obtain ⟨x0, x1, x2, x3, x4, x5, x6⟩ := Bk.out.six6
    go_wp2_with fail
    refine (HA3.out _ _ _ (MkR.out.r) (MmR.out.r)).mono ?_
    rintro e w8 ⟨rfl, k1⟩
    replace B := hide (B.out.keeps k1)
    replace Bk := hide (Bk.out.keeps k1)
    replace K := hide (K.out.trans k1)
    replace MkR := hide (MkR.out.keeps k1)
    replace MmR := hide (MmR.out.keeps k1)
    clear k1 y0 y1 y2 y3 y4 y5 y6 x0 x1 x2 x3 x4 x5 x6
    go_wp2_with fail
    refine (live8_any _).mono ?_
    rintro e w9 ⟨rfl, k1⟩
    go_wp2
    go_ret
    exact ⟨rfl, K.out.trans k1⟩
  · rcases enc_bad he with hem | ⟨hem, hno⟩
    · rw [hem]
      clear he hem HC
      go_wp2_with fail
      refine (live8_any _).mono ?_
      rintro e w9 ⟨rfl, k1⟩
      go_wp2
      go_ret
      exact ⟨rfl, K.out.trans k1⟩
    · rw [hem]
      rw [hno] at HC
      clear he hem
      obtain ⟨y0, y1, y2, y3, y4, y5, y6⟩ := B.out.six6
      go_wp2_with fail
      refine (HC.out _ K.out).mono ?_
      rintro e w8 ⟨rfl, k1⟩
      replace K := hide (K.out.trans k1)
      clear k1 y0 y1 y2 y3 y4 y5 y6
      go_wp2_with fail
      refine (live8_any _).mono ?_
      rintro e w9 ⟨rfl, k1⟩
      go_wp2
      go_ret
      exact ⟨rfl, K.out.trans k1⟩
end Go.Proofs.Ytpnjmgcfdbobeaa
