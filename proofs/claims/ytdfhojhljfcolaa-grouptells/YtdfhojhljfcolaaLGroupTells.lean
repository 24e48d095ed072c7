/- GroupTells answers true, for every input: the walk. -/
import Derived.Test.YtdfhojhljfcolaaGrpLive
import Derived.Test.YtdfhojhljfcolaaGrpR3
import Derived.Test.YtdfhojhljfcolaaShapesG
import Derived.Test.YtdfhojhljfcolaaMsgW7
namespace Go.Proofs.Ytdfhojhljfcolaa
open Go.RowKit

theorem flat_len_le (s : St) (x y : Int) : (flatM s x y).length ≤ s.ds.length := by
  unfold flatM
  split
  · rw [List.length_map, turned_length]
    exact Nat.le_refl _
  · simp

set_option maxHeartbeats 16000000 in
set_option maxRecDepth 100000 in
theorem GroupTells_walk (v : Value) (s : St) (u : Value) (k : St) (x y : Int) (w : World) (hv : StAt w v s) (hf : StFine s) (_ : StIn s) (hu : StAt w u k) (hg : StFine k) (_ : StIn k) (_ : -9223372036854775808 ≤ x ∧ x ≤ 9223372036854775807) (_ : -9223372036854775808 ≤ y ∧ y ≤ 9223372036854775807) :
    Calls Try.prog 4 #[v, u, .agg #[.int .i64 x, .int .i64 y]] w fun e w' => e = .returned (.bool true) ∧ Keeps w w' := by
  have H1 := hide (fun W (kk : Keeps w W) => SmallS_any v s W (hv.keeps kk) hf)
  have H2 := hide (fun W (kk : Keeps w W) => SmallS_any u k W (hu.keeps kk) hg)
  have hsm : smallS s = true → s.ds.length ≤ 60 := fun h => by
    simp only [smallS, Bool.and_eq_true, decide_eq_true_eq] at h
    exact h.1.2
  have HC := hide (fun W (kk : Keeps w W) => GCheck_any v s W (hv.keeps kk) hf)
  have HRC := hide (fun W (kk : Keeps w W) => refGCheck_any v s W (hv.keeps kk) hf)
  have HF := fun (h : s.ds.length ≤ 1000000) W (kk : Keeps w W) => Flat_any v s x y W (hv.keeps kk) hf h
  have HRF := fun (h : s.ds.length ≤ 1000000) W (kk : Keeps w W) => refFlat_any v s x y W (hv.keeps kk) hf h
  have HS := hide (fun W (kk : Keeps w W) => GSame_any v u s k W (hv.keeps kk) (hu.keeps kk) hf hg)
  have HRS := fun (h : s.ds.length ≤ 1099511627776) W (kk : Keeps w W) => refGSame_any v u s k W (hv.keeps kk) (hu.keeps kk) h
  have hFl := flat_len_le s x y
  obtain ⟨vd, rfl, hd⟩ := hv
  obtain ⟨a, cap, hvd⟩ := hd.len
  subst hvd
  obtain ⟨ud, rfl, he⟩ := hu
  obtain ⟨a2, cap2, hud⟩ := he.len
  subst hud
  clear hd he
  generalize stOk s = OK at *
  generalize decide (s = k) = D at *
  generalize flatM s x y = F at *
  have B := hide (((Blk.made w #[.string s.key.n, .int .i64 s.key.t, .int .i64 s.key.c, .slice a s.ds.length cap, .int .i64 s.ttl] 35).alloc (.cells #[.string k.key.n, .int .i64 k.key.t, .int .i64 k.key.c, .slice a2 k.ds.length cap2, .int .i64 k.ttl] 35)).alloc (.cells #[.int .i64 x, .int .i64 y] 36))
  have B2 := (Blk.made (w.alloc (.cells #[.string s.key.n, .int .i64 s.key.t, .int .i64 s.key.c, .slice a s.ds.length cap, .int .i64 s.ttl] 35)) #[.string k.key.n, .int .i64 k.key.t, .int .i64 k.key.c, .slice a2 k.ds.length cap2, .int .i64 k.ttl] 35).alloc (.cells #[.int .i64 x, .int .i64 y] 36)
  have A2 := Blk.made ((w.alloc (.cells #[.string s.key.n, .int .i64 s.key.t, .int .i64 s.key.c, .slice a s.ds.length cap, .int .i64 s.ttl] 35)).alloc (.cells #[.string k.key.n, .int .i64 k.key.t, .int .i64 k.key.c, .slice a2 k.ds.length cap2, .int .i64 k.ttl] 35)) #[.int .i64 x, .int .i64 y] 36
  rw [size_allocG] at B2
  rw [size_allocG, size_allocG] at A2
  replace B2 := hide B2
  replace A2 := hide A2
  have K := hide ((((Keeps.refl w).alloc (.cells #[.string s.key.n, .int .i64 s.key.t, .int .i64 s.key.c, .slice a s.ds.length cap, .int .i64 s.ttl] 35)).alloc (.cells #[.string k.key.n, .int .i64 k.key.t, .int .i64 k.key.c, .slice a2 k.ds.length cap2, .int .i64 k.ttl] 35)).alloc (.cells #[.int .i64 x, .int .i64 y] 36))
  go_enter Try.func4, Try.ntmps4
  go_upto_region 1 with fail
  generalize ((w.alloc (.cells #[.string s.key.n, .int .i64 s.key.t, .int .i64 s.key.c, .slice a s.ds.length cap, .int .i64 s.ttl] 35)).alloc (.cells #[.string k.key.n, .int .i64 k.key.t, .int .i64 k.key.c, .slice a2 k.ds.length cap2, .int .i64 k.ttl] 35)).alloc (.cells #[.int .i64 x, .int .i64 y] 36) = W at *
  generalize w.heap.size + 1 + 1 = H at *
  generalize w.heap.size + 1 = G2 at *
  generalize w.heap.size = G at *
  obtain ⟨b0, b1, b2, b3, b4, _⟩ := B.out.five_cells
  go_wp2_with fail
  refine (H1.out _ K.out).mono ?_
  rintro e w1 ⟨rfl, k1⟩
  replace B := hide (B.out.keeps k1)
  replace B2 := hide (B2.out.keeps k1)
  replace A2 := hide (A2.out.keeps k1)
  replace K := hide (K.out.trans k1)
  clear k1 H1 b0 b1 b2 b3 b4
  cases hss : smallS s
  · go_wp2_with fail
    refine (live10_any _).mono ?_
    rintro e wz ⟨rfl, kz⟩
    go_wp2
    go_ret
    exact ⟨rfl, K.out.trans kz⟩
  have h60 := hsm hss
  clear hsm hss
  obtain ⟨b0, b1, b2, b3, b4, _⟩ := B2.out.five_cells
  go_wp2_with fail
  refine (H2.out _ K.out).mono ?_
  rintro e w2 ⟨rfl, k1⟩
  replace B := hide (B.out.keeps k1)
  replace B2 := hide (B2.out.keeps k1)
  replace A2 := hide (A2.out.keeps k1)
  replace K := hide (K.out.trans k1)
  clear k1 H2 b0 b1 b2 b3 b4
  cases hsk : smallS k
  · go_wp2_with fail
    refine (live10_any _).mono ?_
    rintro e wz ⟨rfl, kz⟩
    go_wp2
    go_ret
    exact ⟨rfl, K.out.trans kz⟩
  clear hsk
  have hlF : F.length ≤ maxLen := by unfold maxLen; omega
  replace HF := hide (HF (by omega))
  replace HRF := hide (HRF (by omega))
  replace HRS := hide (HRS (by omega))
  clear h60 hFl
  have K2 : Keeps w w2.drew := K.out.drew
  have HT : Hid (∀ w', Keeps w2.drew w' → w'.cell? ⟨G, 0, none⟩ = some (.string s.key.n) ∧ w'.cell? ⟨G, 1, none⟩ = some (.int .i64 s.key.t) ∧ w'.cell? ⟨G, 2, none⟩ = some (.int .i64 s.key.c) ∧ w'.cell? ⟨G, 3, none⟩ = some (.slice a s.ds.length cap) ∧ w'.cell? ⟨G, 4, none⟩ = some (.int .i64 s.ttl) ∧ w'.cell? ⟨G2, 0, none⟩ = some (.string k.key.n) ∧ w'.cell? ⟨G2, 1, none⟩ = some (.int .i64 k.key.t) ∧ w'.cell? ⟨G2, 2, none⟩ = some (.int .i64 k.key.c) ∧ w'.cell? ⟨G2, 3, none⟩ = some (.slice a2 k.ds.length cap2) ∧ w'.cell? ⟨G2, 4, none⟩ = some (.int .i64 k.ttl) ∧ w'.cell? ⟨H, 0, none⟩ = some (.int .i64 x) ∧ w'.cell? ⟨H, 1, none⟩ = some (.int .i64 y)) := fun w' q => ⟨(B.out.drew.keeps q).cell 0, (B.out.drew.keeps q).cell 1, (B.out.drew.keeps q).cell 2, (B.out.drew.keeps q).cell 3, (B.out.drew.keeps q).cell 4, (B2.out.drew.keeps q).cell 0, (B2.out.drew.keeps q).cell 1, (B2.out.drew.keeps q).cell 2, (B2.out.drew.keeps q).cell 3, (B2.out.drew.keeps q).cell 4, (A2.out.drew.keeps q).cell 0, (A2.out.drew.keeps q).cell 1⟩
  have T := HT.out _ (Keeps.refl _)
  have KK : Keeps w2.drew w2.drew := Keeps.refl _
  clear B B2 A2 K
  go_wp2_with fail
  go_region_held3 (fun w' => w'.cell? ⟨G, 0, none⟩ = some (.string s.key.n) ∧ w'.cell? ⟨G, 1, none⟩ = some (.int .i64 s.key.t) ∧ w'.cell? ⟨G, 2, none⟩ = some (.int .i64 s.key.c) ∧ w'.cell? ⟨G, 3, none⟩ = some (.slice a s.ds.length cap) ∧ w'.cell? ⟨G, 4, none⟩ = some (.int .i64 s.ttl) ∧ w'.cell? ⟨G2, 0, none⟩ = some (.string k.key.n) ∧ w'.cell? ⟨G2, 1, none⟩ = some (.int .i64 k.key.t) ∧ w'.cell? ⟨G2, 2, none⟩ = some (.int .i64 k.key.c) ∧ w'.cell? ⟨G2, 3, none⟩ = some (.slice a2 k.ds.length cap2) ∧ w'.cell? ⟨G2, 4, none⟩ = some (.int .i64 k.ttl) ∧ w'.cell? ⟨H, 0, none⟩ = some (.int .i64 x) ∧ w'.cell? ⟨H, 1, none⟩ = some (.int .i64 y)) (exact T) ((first | (go_at_call 17; refine (HC.out _ (Keeps.trans K2 KK)).mono ?_; rintro e w5 ⟨rfl, k5⟩; replace KK := Keeps.trans KK k5; replace T := HT.out _ KK; clear k5) | (go_at_call 18; refine (HRC.out _ (Keeps.trans K2 KK)).mono ?_; rintro e w5 ⟨rfl, k5⟩; replace KK := Keeps.trans KK k5; replace T := HT.out _ KK; clear k5) | (go_at_call 20; refine (HF.out _ (Keeps.trans K2 KK)).mono ?_; intro e w5 hE; obtain ⟨vf, rfl, rf, k5⟩ := hE; replace KK := Keeps.trans KK k5; replace T := HT.out _ KK; clear k5) | (go_at_call 21; refine (HRF.out _ (Keeps.trans K2 KK)).mono ?_; intro e w5 hE; obtain ⟨vg, rfl, rg, k5⟩ := hE; replace KK := Keeps.trans KK k5; replace T := HT.out _ KK; replace rf := rf.keeps k5; clear k5) | (go_at_call 19; refine (refsame6_any _ _ F F _ rf rg hlF hlF).mono ?_; rintro e w5 ⟨rfl, k5⟩; replace KK := Keeps.trans KK k5; replace T := HT.out _ KK; rw [decide_eq_true rfl]; clear k5) | (go_at_call 22; refine (HS.out _ (Keeps.trans K2 KK)).mono ?_; rintro e w5 ⟨rfl, k5⟩; replace KK := Keeps.trans KK k5; replace T := HT.out _ KK; clear k5) | (go_at_call 23; refine (HRS.out _ (Keeps.trans K2 KK)).mono ?_; rintro e w5 ⟨rfl, k5⟩; replace KK := Keeps.trans KK k5; replace T := HT.out _ KK; clear k5) | (go_at_call 10; refine (live10_any _).mono ?_; rintro e w5 ⟨rfl, k5⟩; replace KK := Keeps.trans KK k5; replace T := HT.out _ KK; clear k5)))
  go_wp2
  go_ret
  exact ⟨rfl, K2.trans KK⟩
end Go.Proofs.Ytdfhojhljfcolaa
