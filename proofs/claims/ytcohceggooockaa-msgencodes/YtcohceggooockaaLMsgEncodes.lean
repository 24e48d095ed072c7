/- MsgEncodes answers true, for every input: the walk. -/
import Derived.Test.YtcohceggooockaaMsgLive
import Derived.Test.YtcohceggooockaaMsgR2
import Derived.Test.YtcohceggooockaaMsgR3
import Derived.Test.YtcohceggooockaaMsgE3
import Derived.Test.YtcohceggooockaaShapesM
namespace Go.Proofs.Ytcohceggooockaa
open Go.RowKit

theorem ms_form {w : World} {v : Value} {m : Ms} (h : MsAt w v m) : ∃ a b c d e f g h, v = .agg #[.int .i64 m.id, .int .i64 m.bits, .slice a m.qs.length b, .slice c m.an.length d, .slice e m.ns.length f, .slice g m.ar.length h] := by
  obtain ⟨vq, va, vn, vr, rfl, r1, r2, r3, r4⟩ := h
  obtain ⟨a, b, h1⟩ := r1.len
  obtain ⟨c, d, h2⟩ := r2.len
  obtain ⟨e, f, h3⟩ := r3.len
  obtain ⟨g, h, h4⟩ := r4.len
  rw [List.length_map] at h1 h2 h3 h4
  subst h1 h2 h3 h4
  exact ⟨a, b, c, d, e, f, g, h, rfl⟩

set_option maxHeartbeats 16000000 in
set_option maxRecDepth 100000 in
theorem MsgEncodes_walk (v : Value) (m : Ms) (u : Value) (k : Ms) (w : World) (hM : MsAt w v m) (hf : MsFine m) (_ : MsIn m) (hz : m.qs.length ≤ reachBytes ∧ m.an.length ≤ reachBytes ∧ m.ns.length ≤ reachBytes ∧ m.ar.length ≤ reachBytes)
    (hK : MsAt w u k) (hg : MsFine k) (_ : MsIn k) (hy : k.qs.length ≤ reachBytes ∧ k.an.length ≤ reachBytes ∧ k.ns.length ≤ reachBytes ∧ k.ar.length ≤ reachBytes) :
    Calls Try.prog 4 #[v, u] w fun e w' => e = .returned (.bool true) ∧ Keeps w w' := by
  have hsum : m.qs.length + m.an.length + m.ns.length + m.ar.length ≤ 9223372036854775807 := by
    have : reachBytes ≤ 140737488355328 := by decide
    omega
  have hsum2 : k.qs.length + k.an.length + k.ns.length + k.ar.length ≤ 9223372036854775807 := by
    have : reachBytes ≤ 140737488355328 := by decide
    omega
  have H1 := hide (fun W (q : Keeps w W) => Small_any v m W (hM.keeps q) hf hsum)
  have H2 := hide (fun W (q : Keeps w W) => Small_any u k W (hK.keeps q) hg hsum2)
  have HE := hide (fun W (q : Keeps w W) => Encode_any v m W (hM.keeps q) hf)
  have HRE := hide (fun W (q : Keeps w W) => refEncode8_any v m W (hM.keeps q) hf)
  have HC := hide (fun W (q : Keeps w W) => Check_any v m W (hM.keeps q) hf)
  have HRC := hide (fun W (q : Keeps w W) => refCheck8_any v m W (hM.keeps q) hf)
  have HS := hide (fun W (q : Keeps w W) => Same_any v u m k W (hM.keeps q) (hK.keeps q) hf.lens hg.lens)
  have HRS := hide (fun W (q : Keeps w W) => refSame8_any v u m k W (hM.keeps q) (hK.keeps q) hf.lens hg.lens)
  obtain ⟨pq, pkq, pa, pka, pn, pkn, pr, pkr, rfl⟩ := ms_form hM
  obtain ⟨tq, tkq, ta, tka, tn, tkn, tr, tkr, rfl⟩ := ms_form hK
  clear hM hK hf hg hz hy hsum hsum2
  generalize (encM m).1 = E1 at *
  generalize (encM m).2 = E2 at *
  generalize msOk m = OK at *
  generalize decide (m = k) = D at *
  have B := hide ((Blk.made w #[.int .i64 m.id, .int .i64 m.bits, .slice pq m.qs.length pkq, .slice pa m.an.length pka, .slice pn m.ns.length pkn, .slice pr m.ar.length pkr] 26).alloc (.cells #[.int .i64 k.id, .int .i64 k.bits, .slice tq k.qs.length tkq, .slice ta k.an.length tka, .slice tn k.ns.length tkn, .slice tr k.ar.length tkr] 26))
  have B2 := Blk.made (w.alloc (.cells #[.int .i64 m.id, .int .i64 m.bits, .slice pq m.qs.length pkq, .slice pa m.an.length pka, .slice pn m.ns.length pkn, .slice pr m.ar.length pkr] 26)) #[.int .i64 k.id, .int .i64 k.bits, .slice tq k.qs.length tkq, .slice ta k.an.length tka, .slice tn k.ns.length tkn, .slice tr k.ar.length tkr] 26
  rw [show (w.alloc (.cells #[.int .i64 m.id, .int .i64 m.bits, .slice pq m.qs.length pkq, .slice pa m.an.length pka, .slice pn m.ns.length pkn, .slice pr m.ar.length pkr] 26)).heap.size = w.heap.size + 1 by simp] at B2
  replace B2 := hide B2
  have K := hide (((Keeps.refl w).alloc (.cells #[.int .i64 m.id, .int .i64 m.bits, .slice pq m.qs.length pkq, .slice pa m.an.length pka, .slice pn m.ns.length pkn, .slice pr m.ar.length pkr] 26)).alloc (.cells #[.int .i64 k.id, .int .i64 k.bits, .slice tq k.qs.length tkq, .slice ta k.an.length tka, .slice tn k.ns.length tkn, .slice tr k.ar.length tkr] 26))
  go_enter Try.func4, Try.ntmps4
  go_upto_region 1 with fail
  generalize (w.alloc (.cells #[.int .i64 m.id, .int .i64 m.bits, .slice pq m.qs.length pkq, .slice pa m.an.length pka, .slice pn m.ns.length pkn, .slice pr m.ar.length pkr] 26)).alloc (.cells #[.int .i64 k.id, .int .i64 k.bits, .slice tq k.qs.length tkq, .slice ta k.an.length tka, .slice tn k.ns.length tkn, .slice tr k.ar.length tkr] 26) = W at *
  generalize w.heap.size + 1 = M2 at *
  generalize w.heap.size = M at *
  obtain ⟨b0, b1, b2, b3, b4, b5, _⟩ := B.out.six6
  go_wp2_with fail
  refine (H1.out _ K.out).mono ?_
  rintro e w1 ⟨rfl, k1⟩
  replace B := hide (B.out.keeps k1)
  replace B2 := hide (B2.out.keeps k1)
  replace K := hide (K.out.trans k1)
  clear k1 b0 b1 b2 b3 b4 b5
  clear H1
  cases hss : smallM m
  · go_wp2_with fail
    refine (live8_any _).mono ?_
    rintro e wz ⟨rfl, kz⟩
    go_wp2
    go_ret
    exact ⟨rfl, K.out.trans kz⟩
  clear hss
  obtain ⟨b0, b1, b2, b3, b4, b5, _⟩ := B2.out.six6
  go_wp2_with fail
  refine (H2.out _ K.out).mono ?_
  rintro e w2 ⟨rfl, k1⟩
  replace B := hide (B.out.keeps k1)
  replace B2 := hide (B2.out.keeps k1)
  replace K := hide (K.out.trans k1)
  clear k1 b0 b1 b2 b3 b4 b5
  clear H2
  cases hsk : smallM k
  · go_wp2_with fail
    refine (live8_any _).mono ?_
    rintro e wz ⟨rfl, kz⟩
    go_wp2
    go_ret
    exact ⟨rfl, K.out.trans kz⟩
  clear hsk
  obtain ⟨b0, b1, b2, b3, b4, b5, _⟩ := B.out.six6
  go_wp2_with fail
  refine (HE.out _ K.out).mono ?_
  rintro e w3 ⟨rfl, k1⟩
  replace B := hide (B.out.keeps k1)
  replace B2 := hide (B2.out.keeps k1)
  replace K := hide (K.out.trans k1)
  clear k1 b0 b1 b2 b3 b4 b5
  clear HE
  obtain ⟨b0, b1, b2, b3, b4, b5, _⟩ := B.out.six6
  go_wp2_with fail
  refine (HRE.out _ K.out).mono ?_
  rintro e w4 ⟨rfl, k1⟩
  replace B := hide (B.out.keeps k1)
  replace B2 := hide (B2.out.keeps k1)
  replace K := hide (K.out.trans k1)
  clear k1 b0 b1 b2 b3 b4 b5
  clear HRE
  have K2 : Keeps w w4.drew := K.out.drew
  have HT : Hid (∀ w', Keeps w4.drew w' → w'.cell? ⟨M, 0, none⟩ = some (.int .i64 m.id) ∧ w'.cell? ⟨M, 1, none⟩ = some (.int .i64 m.bits) ∧ w'.cell? ⟨M, 2, none⟩ = some (.slice pq m.qs.length pkq) ∧ w'.cell? ⟨M, 3, none⟩ = some (.slice pa m.an.length pka) ∧ w'.cell? ⟨M, 4, none⟩ = some (.slice pn m.ns.length pkn) ∧ w'.cell? ⟨M, 5, none⟩ = some (.slice pr m.ar.length pkr) ∧ w'.cell? ⟨M2, 0, none⟩ = some (.int .i64 k.id) ∧ w'.cell? ⟨M2, 1, none⟩ = some (.int .i64 k.bits) ∧ w'.cell? ⟨M2, 2, none⟩ = some (.slice tq k.qs.length tkq) ∧ w'.cell? ⟨M2, 3, none⟩ = some (.slice ta k.an.length tka) ∧ w'.cell? ⟨M2, 4, none⟩ = some (.slice tn k.ns.length tkn) ∧ w'.cell? ⟨M2, 5, none⟩ = some (.slice tr k.ar.length tkr)) := fun w' q => ⟨(B.out.drew.keeps q).cell 0, (B.out.drew.keeps q).cell 1, (B.out.drew.keeps q).cell 2, (B.out.drew.keeps q).cell 3, (B.out.drew.keeps q).cell 4, (B.out.drew.keeps q).cell 5, (B2.out.drew.keeps q).cell 0, (B2.out.drew.keeps q).cell 1, (B2.out.drew.keeps q).cell 2, (B2.out.drew.keeps q).cell 3, (B2.out.drew.keeps q).cell 4, (B2.out.drew.keeps q).cell 5⟩
  have T := HT.out _ (Keeps.refl _)
  have KK : Keeps w4.drew w4.drew := Keeps.refl _
  clear B B2 K
  go_wp2_with fail
  go_region_held3 (fun w' => w'.cell? ⟨M, 0, none⟩ = some (.int .i64 m.id) ∧ w'.cell? ⟨M, 1, none⟩ = some (.int .i64 m.bits) ∧ w'.cell? ⟨M, 2, none⟩ = some (.slice pq m.qs.length pkq) ∧ w'.cell? ⟨M, 3, none⟩ = some (.slice pa m.an.length pka) ∧ w'.cell? ⟨M, 4, none⟩ = some (.slice pn m.ns.length pkn) ∧ w'.cell? ⟨M, 5, none⟩ = some (.slice pr m.ar.length pkr) ∧ w'.cell? ⟨M2, 0, none⟩ = some (.int .i64 k.id) ∧ w'.cell? ⟨M2, 1, none⟩ = some (.int .i64 k.bits) ∧ w'.cell? ⟨M2, 2, none⟩ = some (.slice tq k.qs.length tkq) ∧ w'.cell? ⟨M2, 3, none⟩ = some (.slice ta k.an.length tka) ∧ w'.cell? ⟨M2, 4, none⟩ = some (.slice tn k.ns.length tkn) ∧ w'.cell? ⟨M2, 5, none⟩ = some (.slice tr k.ar.length tkr)) (exact T) ((first | (go_at_call 18; refine (HC.out _ (Keeps.trans K2 KK)).mono ?_; rintro e w5 ⟨rfl, k5⟩; replace KK := Keeps.trans KK k5; replace T := HT.out _ KK; clear k5) | (go_at_call 19; refine (HRC.out _ (Keeps.trans K2 KK)).mono ?_; rintro e w5 ⟨rfl, k5⟩; replace KK := Keeps.trans KK k5; replace T := HT.out _ KK; clear k5) | (go_at_call 20; refine (HS.out _ (Keeps.trans K2 KK)).mono ?_; rintro e w5 ⟨rfl, k5⟩; replace KK := Keeps.trans KK k5; replace T := HT.out _ KK; clear k5) | (go_at_call 14; refine (HRS.out _ (Keeps.trans K2 KK)).mono ?_; rintro e w5 ⟨rfl, k5⟩; replace KK := Keeps.trans KK k5; replace T := HT.out _ KK; clear k5) | (go_at_call 9; refine (live8_any _).mono ?_; rintro e w5 ⟨rfl, k5⟩; replace KK := Keeps.trans KK k5; replace T := HT.out _ KK; clear k5)))
  go_wp2
  go_ret
  exact ⟨rfl, K2.trans KK⟩
end Go.Proofs.Ytcohceggooockaa
