/- The laws' words on what is to be done with what is not there: few, and small. No condition but lengths. -/
import Derived.Test.YtedcjkfiljjpiaaShapesN
import Derived.Test.YtedcjkfiljjpiaaNgL
import Derived.Test.YtedcjkfiljjpiaaGrpA
namespace Go.Proofs.Ytedcjkfiljjpiaa
open Go.RowKit

theorem row11 {w : World} {b off n cap : Nat} {zs : List (Op15 × Value)} (h : ReadRow w (.slice (some ⟨b, off, none⟩) n cap) 11 (zs.map op15L)) {j : Nat} (hj : j < zs.length) :
    w.cell? ⟨b, off + j * 11, none⟩ = some (.int .i64 zs[j].1.d) ∧ w.cell? ⟨b, off + j * 11 + 1, none⟩ = some (.int .i64 zs[j].1.now) ∧ w.cell? ⟨b, off + j * 11 + 2, none⟩ = some (.string zs[j].1.key.n) ∧ w.cell? ⟨b, off + j * 11 + 3, none⟩ = some (.int .i64 zs[j].1.key.t) ∧ w.cell? ⟨b, off + j * 11 + 4, none⟩ = some (.int .i64 zs[j].1.key.c) ∧ w.cell? ⟨b, off + j * 11 + 5, none⟩ = some (.bool zs[j].1.nx) ∧ w.cell? ⟨b, off + j * 11 + 6, none⟩ = some (.string zs[j].1.soa.key.n) ∧ w.cell? ⟨b, off + j * 11 + 7, none⟩ = some (.int .i64 zs[j].1.soa.key.t) ∧ w.cell? ⟨b, off + j * 11 + 8, none⟩ = some (.int .i64 zs[j].1.soa.key.c) ∧ w.cell? ⟨b, off + j * 11 + 9, none⟩ = some (zs[j].2) ∧ w.cell? ⟨b, off + j * 11 + 10, none⟩ = some (.int .i64 zs[j].1.soa.ttl) := by
  obtain ⟨b', off', hb, _, hc⟩ := h.parts (by rw [List.length_map]; omega)
  simp only [Option.some.injEq, Addr.mk.injEq, and_true] at hb
  obtain ⟨rfl, rfl⟩ := hb
  have hj' : j < (zs.map op15L).length := by simpa using hj
  have e : ∀ k, k < 11 → w.cell? ⟨b, off + j * 11 + k, none⟩ = (op15L zs[j])[k]? := fun k hk => by rw [hc j hj' k hk]; simp
  exact ⟨e 0 (by omega), e 1 (by omega), e 2 (by omega), e 3 (by omega), e 4 (by omega), e 5 (by omega), e 6 (by omega), e 7 (by omega), e 8 (by omega), e 9 (by omega), e 10 (by omega)⟩
def smallZN (z : Op15 × Value) : Bool := smallS z.1.soa && decide (z.1.key.n.size ≤ 300)
def small15 (zs : List (Op15 × Value)) (most : Int) : Bool := zs.all smallZN && decide ((zs.length : Int) ≤ most)
theorem small_dsN (x : St) (h : smallS x = true) : x.ds.length ≤ 1000000 := by
  unfold smallS at h
  simp only [Bool.and_eq_true, decide_eq_true_eq] at h
  omega
theorem small15_len {zs : List (Op15 × Value)} {most : Int} (h : small15 zs most = true) : (zs.length : Int) ≤ most ∧ ∀ z ∈ zs, z.1.soa.ds.length ≤ 1000000 := by
  unfold small15 at h
  simp only [Bool.and_eq_true, decide_eq_true_eq, List.all_eq_true] at h
  refine ⟨h.2, fun z hz => small_dsN _ ?_⟩
  have := h.1 z hz
  unfold smallZN at this
  simp only [Bool.and_eq_true] at this
  exact this.1

set_option maxHeartbeats 4000000 in
set_option maxRecDepth 100000 in
theorem small15_any (v : Value) (zs : List (Op15 × Value)) (most : Int) (w : World) (hv : Ops15At w v zs) :
    Calls Try.prog 8 #[v, .int .i64 most] w fun e w' => e = .returned (.bool (small15 zs most)) ∧ Keeps w w' := by
  obtain ⟨hrd, hall, hlen⟩ := hv
  unfold maxLen at hlen
  obtain ⟨a, cap, hvd⟩ := hrd.len
  rw [List.length_map] at hvd
  subst hvd
  have RD := hide hrd
  have HO := hide (show small15 zs most = (zs.all smallZN && decide ((zs.length : Int) ≤ most)) from rfl)
  generalize small15 zs most = R at *
  clear hrd
  go_enter Try.func8, Try.ntmps8
  go_wp2_with fail
  go_loopw [5] (fun i wr => ∃ j : Nat, j ≤ zs.length ∧ i = .int .i64 j ∧ Hid ((zs.take j).all smallZN = true) ∧ Hid (Keeps w wr)) (fun i _ => zs.length - (intOf i).toNat)
  case atStart => exact ⟨0, by omega, rfl, by simp [Hid], hide (Keeps.refl _)⟩
  case round =>
    obtain ⟨j, hj, rfl, HA, K⟩ := hrel
    by_cases hlt : j < zs.length
    · have i2 : (j : Int) < (zs.length : Int) := by omega
      have i0 : (0 : Int) ≤ (j : Int) := by omega
      have hv2 := RD.out.keeps K.out
      obtain ⟨b, off, rfl, _, _⟩ := RD.out.parts (by rw [List.length_map]; omega)
      obtain ⟨c0, c1, c2, c3, c4, c5, c6, c7, c8, c9, c10⟩ := row11 hv2 hlt
      obtain ⟨⟨_, hf1, _⟩, hds⟩ := hall _ (List.getElem_mem hlt)
      have HS := hide (all_take10 smallZN hlt)
      have HN := hide (all_no10 smallZN hlt)
      have HCC := hide (fun W (k : Keeps wr W) => row11 (hv2.keeps k) hlt)
      generalize hoo : off + j * 11 = o at *
      generalize zs[j] = z at *
      obtain ⟨z, zd⟩ := z
      obtain ⟨da, dc, hzd⟩ := hds.len
      simp only at hzd
      subst hzd
      have HSM := hide (SmallS_any (.agg #[.string z.soa.key.n, .int .i64 z.soa.key.t, .int .i64 z.soa.key.c, .slice da z.soa.ds.length dc, .int .i64 z.soa.ttl]) z.soa wr ⟨_, rfl, hds.keeps K.out⟩ hf1)
      have hsm : Hid (smallZN (z, .slice da z.soa.ds.length dc) = (smallS z.soa && decide (z.key.n.size ≤ 300))) := rfl
      generalize smallZN (z, .slice da z.soa.ds.length dc) = SZ at *
      simp only at c0 c1 c2 c3 c4 c5 c6 c7 c8 c9 c10
      clear hv2 hds hf1
      go_wp2_with fail
      refine (HSM.out).mono ?_
      rintro e w1 ⟨rfl, k1⟩
      have K1 := hide (K.out.trans k1)
      obtain ⟨e0, e1, e2, e3, e4, e5, e6, e7, e8, e9, e10⟩ := HCC.out _ k1
      clear HSM k1 K HCC c0 c1 c2 c3 c4 c5 c6 c7 c8 c9 c10
      cases hs1 : smallS z.soa
      · have HE : Hid (R = false) := by rw [Hid, HO.out, HN.out (by rw [hsm.out, hs1]; rfl)]; rfl
        go_wp2
        go_ret
        exact ⟨ret_bool HE.out.symm, K1.out⟩
      by_cases h3 : (300 : Int) < (z.key.n.size : Int)
      · have HE : Hid (R = false) := by rw [Hid, HO.out, HN.out (by rw [hsm.out, decide_eq_false (p := z.key.n.size ≤ 300) (by omega), Bool.and_false])]; rfl
        go_wp2
        go_ret
        exact ⟨ret_bool HE.out.symm, K1.out⟩
      · have HE : Hid ((zs.take (j + 1)).all smallZN = true) := by rw [Hid, HS.out, HA.out, hsm.out, hs1, decide_eq_true (p := z.key.n.size ≤ 300) (by omega)]; rfl
        clear HS HN hsm
        go_wp2_with fail
        go_roundw
        case rel => exact ⟨j + 1, by omega, by go_num, HE, K1⟩
        case measure => simp [intOf]; omega
    · obtain rfl : j = zs.length := by omega
      have HE : Hid (R = decide ((zs.length : Int) ≤ most)) := by
        have h := HA.out
        rw [List.take_length] at h
        rw [Hid, HO.out, h]
        rfl
      by_cases h2 : (zs.length : Int) ≤ most
      · have h3 : R = true := by rw [HE.out, decide_eq_true h2]
        replace h3 := hide h3
        go_wp2
        go_ret
        exact ⟨ret_bool h3.out.symm, K.out⟩
      · have h3 : R = false := by rw [HE.out, decide_eq_false h2]
        replace h3 := hide h3
        go_wp2
        go_ret
        exact ⟨ret_bool h3.out.symm, K.out⟩
theorem Blk.eleven {w : World} {G : Nat} {u0 u1 u2 u3 u4 u5 u6 u7 u8 u9 u10 : Value} {ty : TypeId} (h : Blk w G #[u0, u1, u2, u3, u4, u5, u6, u7, u8, u9, u10] ty) :
    w.cell? ⟨G, 0, none⟩ = some u0 ∧ w.cell? ⟨G, 1, none⟩ = some u1 ∧ w.cell? ⟨G, 2, none⟩ = some u2 ∧ w.cell? ⟨G, 3, none⟩ = some u3 ∧ w.cell? ⟨G, 4, none⟩ = some u4 ∧ w.cell? ⟨G, 5, none⟩ = some u5 ∧ w.cell? ⟨G, 6, none⟩ = some u6 ∧ w.cell? ⟨G, 7, none⟩ = some u7 ∧ w.cell? ⟨G, 8, none⟩ = some u8 ∧ w.cell? ⟨G, 9, none⟩ = some u9 ∧ w.cell? ⟨G, 10, none⟩ = some u10 :=
  ⟨h.cell 0, h.cell 1, h.cell 2, h.cell 3, h.cell 4, h.cell 5, h.cell 6, h.cell 7, h.cell 8, h.cell 9, h.cell 10⟩
/-- What Put comes to, without its words. -/
def PutNSome (w : World) (p m : Nat) (s : Ngs) (now : Int) (q : Qn) (nx : Bool) (x : St) (e : Ending) (w' : World) : Prop := ∃ c s', e = .returned (.int .i64 c) ∧ NAt w' p m s' ∧ s' = Ng.put s now q nx x ∧ KB p m w w'
theorem PutN_some (p m : Nat) (s : Ngs) (now : Int) (q : Qn) (nx : Bool) (v : Value) (x : St) (w : World) (hx : StAt w v x) (hf : StFine x) (hq : QnFine q) (h : NAt w p m s) (hin : StIn x) (hd6 : x.ds.length ≤ 1000000) (hch : s.changes ≤ 1099511627776) :
    Calls Try.prog 15 #[.pointer (some ⟨p, 0, none⟩), .int .i64 now, .agg #[.string q.n, .int .i64 q.t, .int .i64 q.c], .bool nx, v] w fun e w' => PutNSome w p m s now q nx x e w' := by
  refine (PutN_any p m s now q nx v x w hx hf hq h hin hd6 hch).mono ?_
  rintro e w' ⟨rfl, h1, h2⟩
  exact ⟨_, _, rfl, h1, rfl, h2⟩
/-- One thing to be done, in a slice of its own. -/
theorem row_one {w : World} {G : Nat} {z : Op15 × Value} {ty : TypeId} (h : Blk w G (op15L z).toArray ty) : ReadRow w (.slice (some ⟨G, 0, none⟩) 1 1) 11 [op15L z] :=
  ⟨_, 1, rfl, Nat.le_refl _, fun _ => ⟨G, 0, rfl, h.lt, fun i hi j hj => by
    obtain rfl : i = 0 := by simpa using hi
    have := h.cell j
    simpa using this⟩⟩
end Go.Proofs.Ytedcjkfiljjpiaa
