/- What the document's Names of layer 5 answers. -/
import Derived.Test.YtfhdibkacclkaaaDataRef4
import Derived.Test.YtfhdibkacclkaaaDataWalk6
namespace Go.Proofs.Ytfhdibkacclkaaa
open Go.RowKit

/-- The names of data that is whole are read from where its names begin. -/
theorem whole_rds {k : Int} {d : List UInt8} {x : Dt.Pt} (h : Dt.wholeL k d = some x) : ∃ q, Dt.rds d (shOf k).n (shOf k).a = some (x.ns, q) ∧ (shOf k).a ≤ d.length ∧ d = x.join ∧ x.a.length = (if (Dt.shp k).isSome then (shOf k).a else d.length) ∧ x.a.take (shOf k).a = d.take (shOf k).a := by
  obtain ⟨h1, ⟨s, hs, hf⟩ | ⟨hs, hn, rfl, ht⟩⟩ := Dt.wholeL_parts h
  · have e : shOf k = s := by simp [shOf, hs]
    rw [e]
    obtain ⟨g1, g2, g3, g4⟩ := hf
    have hd : d.drop s.a = x.ns.flatten ++ x.b := by rw [← h1, Dt.Pt.join, List.append_assoc, ← g1, List.drop_left]
    have := Dt.rds_whole d x.ns s.a x.b g3 hd
    rw [g2] at this
    refine ⟨_, this, ?_, h1.symm, by simp [hs, g1], ?_⟩
    · rw [← h1]; simp only [Dt.Pt.join, List.length_append]; omega
    · rw [← h1, Dt.Pt.join, List.append_assoc, ← g1, List.take_left, List.take_length]
  · have e : shOf k = ⟨0, 0, 0⟩ := by simp [shOf, hs]
    rw [e]
    exact ⟨0, rfl, by simp, h1.symm, by simp [hs], by simp⟩

theorem shOf_small (k : Int) : (shOf k).a ≤ 16 ∧ (shOf k).n ≤ 2 := by
  unfold shOf
  cases h : Dt.shp k with
  | none => simp
  | some s => have := Dt.shp_small h; exact ⟨this.1, this.2.1⟩

set_option maxHeartbeats 4000000 in
set_option maxRecDepth 100000 in
theorem refnames5_any (k : Int) (d : ByteArray) (w : World) (hm : d.size ≤ maxLen) :
    Calls Try.prog 15 #[.int .i64 k, .string d] w fun e w' => NamesEnd w (Dt.namesL k (bl d)) e w' := by
  have hm' := hm
  unfold maxLen at hm'
  have hC := fun W => refcheck5_any k d W hm
  rw [Dt.checkB] at hC
  have HC := hide hC
  clear hC
  rcases Option.eq_none_or_eq_some (Dt.wholeL k (bl d)) with hr | ⟨x, hr⟩
  · have HF := hide (namesL_none hr)
    rw [hr, Option.isSome_none] at HC
    clear hr
    generalize Dt.namesL k (bl d) = E at *
    go_enter Try.func15, Try.ntmps15
    go_wp2_with fail
    refine (HC.out _).mono ?_
    rintro e w1 ⟨rfl, k1⟩
    clear HC
    go_wp2
    go_ret
    exact NamesEnd.mk (by rw [HF.out]; exact OwnsS.nil _ _) k1
  · have HF := hide (namesL_some hr)
    rw [hr, Option.isSome_some] at HC
    obtain ⟨q0, hq0, hle, hd, hxa, hxt⟩ := whole_rds hr
    rw [bl_length] at hle
    have hss := shOf_small k
    have HS := hide (fun W => refshape_any k W)
    have hz : Hid (some (x.ns, q0) = Dt.rds (bl d) (shOf k).n (shOf k).a) := hq0.symm
    clear hr hq0 hd hxa hxt
    generalize Dt.namesL k (bl d) = E at *
    generalize shOf k = s at *
    have hs1 := hss.1
    have hs2 := hss.2
    clear hss
    go_enter Try.func15, Try.ntmps15
    go_wp2_with fail
    refine (HC.out _).mono ?_
    rintro e w1 ⟨rfl, k1⟩
    clear HC
    go_wp2_with fail
    refine (HS.out _).mono ?_
    rintro e w2 ⟨rfl, k2⟩
    clear HS
    unfold shR
    have k3 := (k1.trans k2).alloc (.cells #[.int .i64 s.a, .int .i64 s.n, .int .i64 s.b] 44)
    have hc1 : (w2.alloc (.cells #[.int .i64 s.a, .int .i64 s.n, .int .i64 s.b] 44)).cell? ⟨w2.heap.size, 1, none⟩ = some (.int .i64 s.n) := (World.cell?_alloc_mark w2 _ _ (0, 0) 1).trans rfl
    have hlt2 : w2.heap.size < (w2.alloc (.cells #[.int .i64 s.a, .int .i64 s.n, .int .i64 s.b] 44)).heap.size := by simp
    go_wp2_with fail
    generalize w2.alloc (.cells #[.int .i64 s.a, .int .i64 s.n, .int .i64 s.b] 44) = W at *
    go_loopw [5, 7, 8] (fun a b i wr => TkRel d s.n (some (x.ns, q0)) W a b i wr) (fun _ _ i _ => s.n - (intOf i).toNat)
    case atStart => exact TkRel.mk 0 _ [] (by omega) rfl hle (OwnsS.nil _ _) (by rw [hz.out]; simp) (Below.refl _ _)
    case round =>
      obtain ⟨j, q, ds, hj, hds, rfl, rfl, hq, hown, hz2, hbel⟩ := hrel
      have HZ := hide hz2
      clear hz2 hz
      have hsb := hbel.size
      have hcell : wr.cell? ⟨w2.heap.size, 1, none⟩ = some (.int .i64 s.n) := ((bcell hbel).1 _ _ hlt2).trans hc1
      by_cases hlt : j < s.n
      · have hjn : (j : Int) < (s.n : Int) := by omega
        generalize hrr : Cm.readL (bl d) q = r at *
        obtain ⟨hr1, hr2⟩ := rrS_size hrr
        rw [bl_length] at hr2
        have HRR := hide hrr
        clear hrr
        have he0 : r.e = 0 := by
          by_cases he : r.e = 0
          · exact he
          · have := rds_step_no HZ.out hlt (by rw [HRR.out]; exact he)
            cases this
        have HS : Hid (some (x.ns, q0) = (Dt.rds (bl d) (s.n - (j + 1)) r.next).map (fun x => ((ds ++ [r.n]) ++ x.1, x.2))) := by
          unfold Hid
          rw [← HRR.out]
          exact rds_step_yes HZ.out hlt (by rw [HRR.out]; exact he0)
        clear he0
        go_wp2_with fail
        refine (refread_any _ _ _ hm (by omega)).mono ?_
        rintro e w4 ⟨rfl, hw4⟩
        subst hw4
        rw [HRR.out]
        go_wp2_with (at_builtin; refine wpList_appS _ rfl _ _ rfl W.heap.size _ _ rfl (hown.alloc _) _ _ (bl (rrS r)) rfl ?c1 ?c2 ?c3 ?_)
        case c1 => first | exact cell_str _ _ _ | exact (sv_bl _).symm
        case c2 => omega
        case c3 => first | omega | (simp; omega)
        intro v' w5 hown' hb' _
        have hbel' := (hbel.alloc hsb _).trans hb'
        clear hb' hown hbel
        go_wp2
        go_roundw
        case rel =>
          rw [show bl (rrS r) = r.n from bl_mk _] at hown'
          exact TkRel.mk (j + 1) r.next _ (by omega) (by simp [hds]) (by omega) hown' HS.out hbel'
        case measure => simp [intOf]; omega
      · have hjn : s.n - j = 0 := by omega
        have hd2 : x.ns = ds := by
          have h := HZ.out
          rw [hjn, Dt.rds] at h
          simp at h
          exact h.1
        have hjl : ¬ (j : Int) < (s.n : Int) := by omega
        have HF2 : Hid (E = ds) := by unfold Hid; rw [HF.out, hd2]
        subst hds
        obtain ⟨ua, uc, rfl⟩ := hown.read.len
        clear HF hd2 HZ
        have hwW : w.heap.size ≤ W.heap.size := k3.size
        go_wp2
        go_ret
        exact NamesEnd.mk (by rw [HF2.out]; exact hown.le hwW) (k3.trans hbel)
end Go.Proofs.Ytfhdibkacclkaaa
