/- The laws' words on what is to be done: few, and small; the last one of a key. No condition but lengths. -/
import Derived.Test.YtdlaepfnogmebaaStoX
import Derived.Test.YtdlaepfnogmebaaShapesT
import Derived.Test.YtdlaepfnogmebaaGrpA
namespace Go.Proofs.Ytdlaepfnogmebaa
open Go.RowKit

theorem row8o {w : World} {b off n cap : Nat} {zs : List (Op14 × Value)} (h : ReadRow w (.slice (some ⟨b, off, none⟩) n cap) 8 (zs.map op14L)) {j : Nat} (hj : j < zs.length) :
    w.cell? ⟨b, off + j * 8, none⟩ = some (.int .i64 zs[j].1.d) ∧ w.cell? ⟨b, off + j * 8 + 1, none⟩ = some (.int .i64 zs[j].1.now) ∧ w.cell? ⟨b, off + j * 8 + 2, none⟩ = some (.string zs[j].1.set.key.n) ∧ w.cell? ⟨b, off + j * 8 + 3, none⟩ = some (.int .i64 zs[j].1.set.key.t) ∧ w.cell? ⟨b, off + j * 8 + 4, none⟩ = some (.int .i64 zs[j].1.set.key.c) ∧ w.cell? ⟨b, off + j * 8 + 5, none⟩ = some zs[j].2 ∧ w.cell? ⟨b, off + j * 8 + 6, none⟩ = some (.int .i64 zs[j].1.set.ttl) ∧ w.cell? ⟨b, off + j * 8 + 7, none⟩ = some (.int .i64 zs[j].1.rank) := by
  obtain ⟨b', off', hb, _, hc⟩ := h.parts (by rw [List.length_map]; omega)
  simp only [Option.some.injEq, Addr.mk.injEq, and_true] at hb
  obtain ⟨rfl, rfl⟩ := hb
  have hj' : j < (zs.map op14L).length := by simpa using hj
  have e : ∀ k, k < 8 → w.cell? ⟨b, off + j * 8 + k, none⟩ = (op14L zs[j])[k]? := fun k hk => by rw [hc j hj' k hk]; simp
  exact ⟨e 0 (by omega), e 1 (by omega), e 2 (by omega), e 3 (by omega), e 4 (by omega), e 5 (by omega), e 6 (by omega), e 7 (by omega)⟩
def smallZ (z : Op14 × Value) : Bool := smallS z.1.set
def small14 (zs : List (Op14 × Value)) (most : Int) : Bool := zs.all smallZ && decide ((zs.length : Int) ≤ most)

set_option maxHeartbeats 4000000 in
set_option maxRecDepth 100000 in
theorem small14_any (v : Value) (zs : List (Op14 × Value)) (most : Int) (w : World) (hv : Ops14At w v zs) :
    Calls Try.prog 10 #[v, .int .i64 most] w fun e w' => e = .returned (.bool (small14 zs most)) ∧ Keeps w w' := by
  obtain ⟨hrd, hall, hlen⟩ := hv
  unfold maxLen at hlen
  obtain ⟨a, cap, hvd⟩ := hrd.len
  rw [List.length_map] at hvd
  subst hvd
  have RD := hide hrd
  have HO := hide (show small14 zs most = (zs.all smallZ && decide ((zs.length : Int) ≤ most)) from rfl)
  generalize small14 zs most = R at *
  clear hrd
  go_enter Try.func10, Try.ntmps10
  go_wp2_with fail
  go_loopw [5] (fun i wr => ∃ j : Nat, j ≤ zs.length ∧ i = .int .i64 j ∧ Hid ((zs.take j).all smallZ = true) ∧ Hid (Keeps w wr)) (fun i _ => zs.length - (intOf i).toNat)
  case atStart => exact ⟨0, by omega, rfl, by simp [Hid], hide (Keeps.refl _)⟩
  case round =>
    obtain ⟨j, hj, rfl, HA, K⟩ := hrel
    by_cases hlt : j < zs.length
    · have i2 : (j : Int) < (zs.length : Int) := by omega
      have i0 : (0 : Int) ≤ (j : Int) := by omega
      have hv2 := RD.out.keeps K.out
      obtain ⟨b, off, rfl, _, _⟩ := hv2.parts (by rw [List.length_map]; omega)
      obtain ⟨c0, c1, c2, c3, c4, c5, c6, c7⟩ := row8o hv2 hlt
      obtain ⟨⟨hf1, _⟩, hds⟩ := hall _ (List.getElem_mem hlt)
      have HS := hide (all_take10 smallZ hlt)
      have HN := hide (all_no10 smallZ hlt)
      generalize hoo : off + j * 8 = o at *
      generalize zs[j] = z at *
      obtain ⟨z, zd⟩ := z
      obtain ⟨da, dc, hzd⟩ := hds.len
      simp only at hzd
      subst hzd
      have HSM := hide (SmallS_any (.agg #[.string z.set.key.n, .int .i64 z.set.key.t, .int .i64 z.set.key.c, .slice da z.set.ds.length dc, .int .i64 z.set.ttl]) z.set wr ⟨_, rfl, hds.keeps K.out⟩ hf1)
      have hsm : Hid (smallZ (z, .slice da z.set.ds.length dc) = smallS z.set) := rfl
      generalize smallZ (z, .slice da z.set.ds.length dc) = SZ at *
      simp only at c0 c1 c2 c3 c4 c5 c6 c7
      clear hv2 hds hf1
      go_wp2_with fail
      refine (HSM.out).mono ?_
      rintro e w1 ⟨rfl, k1⟩
      have K1 := hide (K.out.trans k1)
      rw [← hsm.out]
      clear HSM k1 K c0 c1 c2 c3 c4 c5 c6 c7
      cases SZ
      · have HE : Hid (R = false) := by rw [Hid, HO.out, HN.out rfl]; rfl
        go_wp2
        go_ret
        exact ⟨ret_bool HE.out.symm, K1.out⟩
      · have HE : Hid ((zs.take (j + 1)).all smallZ = true) := by rw [Hid, HS.out, HA.out]; rfl
        clear HS HN
        go_wp2_with fail
        go_roundw
        case rel => exact ⟨j + 1, by omega, by go_num, HE, K1⟩
        case measure => simp [intOf]; omega
    · obtain rfl : j = zs.length := by omega
      have HE : Hid (R = decide ((zs.length : Int) ≤ most)) := by
        have h := HA.out
        rw [List.take_length] at h
        rw [Hid, HO.out, h]
        rfl
      by_cases h2 : (zs.length : Int) ≤ most
      · have h3 : R = true := by rw [HE.out, decide_eq_true h2]
        replace h3 := hide h3
        go_wp2
        go_ret
        exact ⟨ret_bool h3.out.symm, K.out⟩
      · have h3 : R = false := by rw [HE.out, decide_eq_false h2]
        replace h3 := hide h3
        go_wp2
        go_ret
        exact ⟨ret_bool h3.out.symm, K.out⟩
theorem small14_len {zs : List (Op14 × Value)} {most : Int} (h : small14 zs most = true) : (zs.length : Int) ≤ most ∧ ∀ z ∈ zs, z.1.set.ds.length ≤ 1000000 := by
  unfold small14 at h
  simp only [Bool.and_eq_true, decide_eq_true_eq, List.all_eq_true] at h
  exact ⟨h.2, fun z hz => small_ds _ (h.1 z hz)⟩
end Go.Proofs.Ytdlaepfnogmebaa
