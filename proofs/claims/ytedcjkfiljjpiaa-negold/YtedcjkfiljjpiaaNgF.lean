/- How long that lives which is not there: Minimum, and the document's. No condition but lengths. -/
import Derived.Test.YtedcjkfiljjpiaaNgM
import Derived.Test.YtedcjkfiljjpiaaTen
namespace Go.Proofs.Ytedcjkfiljjpiaa
open Go.RowKit

namespace Ng
theorem soa_len {d : List UInt8} (h : Dt.checkB 6 d = true) : 20 ≤ d.length := by
  unfold Dt.checkB Dt.wholeL at h
  cases hs : Dt.splitL d 0 d.length 6 with
  | none => rw [hs] at h; cases h
  | some p =>
    clear h
    unfold Dt.splitL at hs
    split at hs
    · cases hs
    · rw [show Dt.shp 6 = some ⟨0, 2, 20⟩ from rfl] at hs
      simp only at hs
      unfold Dt.takeL at hs
      split at hs
      · split at hs
        · cases hs
        · split at hs
          · rename_i h2
            simp only at h2
            omega
          · cases hs
      · cases hs
theorem min_parts {x : St} (h : minOk x = true) : stOk x = true ∧ x.key.t = 6 ∧ ∃ d l, x.ds = d :: l ∧ 20 ≤ d.length := by
  unfold minOk at h
  simp only [Bool.and_eq_true, decide_eq_true_eq] at h
  obtain ⟨h1, h2⟩ := h
  refine ⟨h1, h2, ?_⟩
  rw [stOk_doc] at h1
  simp only [Bool.and_eq_true, decide_eq_true_eq, List.all_eq_true] at h1
  cases hd : x.ds with
  | nil => rw [hd] at h1; simp at h1
  | cons d l =>
    refine ⟨d, l, rfl, ?_⟩
    have h3 := h1.1.1 d (by rw [hd]; simp)
    unfold okD at h3
    simp only [Bool.and_eq_true] at h3
    rw [h2] at h3
    exact soa_len h3.1
theorem last_ok {d : List UInt8} (h : 20 ≤ d.length) : Oct.getOk ⟨d.toArray⟩ ((d.length : Int) - 4) 4 = true := by
  unfold Oct.getOk Oct.sizedB Oct.takeOk
  have hsz : (⟨d.toArray⟩ : ByteArray).size = d.length := by show d.toArray.size = _; simp
  rw [hsz]
  simp only [Bool.and_eq_true, decide_eq_true_eq]
  omega
end Ng

set_option maxHeartbeats 8000000 in
set_option maxRecDepth 100000 in
theorem Minimum_any (v : Value) (x : St) (w : World) (hv : StAt w v x) (hf : StFine x) :
    Calls Try.prog 12 #[v] w fun e w' => e = .returned (.tuple #[.int .i64 (Ng.minN x), .bool (Ng.minOk x)]) ∧ Keeps w w' := by
  have HGC := hide (fun W (kk : Keeps w W) => GCheck_any v x W (hv.keeps kk) hf)
  have hf3 := hf.2.2
  obtain ⟨vd, rfl, hds⟩ := hv
  have HD := hide hds
  obtain ⟨va, vc, rfl⟩ := hds.len
  have hO := hide (show Ng.minOk x = (stOk x && decide (x.key.t = 6)) from rfl)
  have hN := hide (show Ng.minN x = if Ng.minOk x = true then min x.ttl (Ng.lastN (x.ds.headD [])) else 0 from rfl)
  have hP := hide (fun h => Ng.min_parts (x := x) h)
  have B := hide (Blk.made w #[.string x.key.n, .int .i64 x.key.t, .int .i64 x.key.c, .slice va x.ds.length vc, .int .i64 x.ttl] 35)
  have K := hide ((Keeps.refl w).alloc (.cells #[.string x.key.n, .int .i64 x.key.t, .int .i64 x.key.c, .slice va x.ds.length vc, .int .i64 x.ttl] 35))
  clear hds hf
  by_cases ht : x.key.t = 6
  · have ht2 : (x.key.t != 6) = false := by rw [ht]; rfl
    have ht3 : (x.key.t == 6) = true := by rw [ht]; rfl
    generalize Ng.minN x = MN at *
    generalize Ng.minOk x = MO at *
    replace ht := hide ht
    go_enter Try.func12, Try.ntmps12
    go_upto_region 1 with fail
    generalize w.alloc (.cells #[.string x.key.n, .int .i64 x.key.t, .int .i64 x.key.c, .slice va x.ds.length vc, .int .i64 x.ttl] 35) = W at *
    generalize hF : w.heap.size = F at B ⊢
    replace hF := hide hF
    obtain ⟨b0, b1, b2, b3, b4⟩ := B.out.five_all.1
    go_wp2_with fail
    refine (HGC.out _ K.out).mono ?_
    rintro e w1 ⟨rfl, k1⟩
    replace B := hide (B.out.keeps k1)
    replace K := hide (K.out.trans k1)
    clear k1 HGC b0 b1 b2 b3 b4
    cases hok : stOk x
    · have h1 : MO = false := by rw [hO.out, hok]; rfl
      have h2 : MN = 0 := by rw [hN.out, h1]; rfl
      subst h1 h2
      go_wp2
      go_ret2
      exact ⟨rfl, K.out⟩
    · have h1 : MO = true := by rw [hO.out, hok, ht.out]; rfl
      obtain ⟨_, _, d, l, hdl, h20⟩ := hP.out h1
      have hd3 := hf3 d (by rw [hdl]; simp)
      have h2 : MN = min x.ttl (Ng.lastN d) := by rw [hN.out, if_pos h1, hdl]; rfl
      have hpos : 0 < x.ds.length := by rw [hdl]; simp
      have HR := HD.out.keeps K.out
      obtain ⟨b, off, cap', he, _, hcell, _⟩ := HR.parts hpos
      simp only [Value.slice.injEq, true_and] at he
      obtain ⟨rfl, rfl⟩ := he
      have hc := hcell 0 hpos
      have h0 : x.ds[0] = d := by simp only [hdl, List.getElem_cons_zero]
      rw [h0] at hc
      have i2 : (0 : Int) < (x.ds.length : Int) := by omega
      have hsz : (⟨d.toArray⟩ : ByteArray).size = d.length := by show d.toArray.size = _; simp
      unfold maxLen at hd3
      have HG := hide (fun W => get_any ⟨d.toArray⟩ ((d.length : Int) - 4) 4 W (by rw [hsz]; unfold maxLen; exact hd3) (by omega))
      rw [Ng.last_ok h20] at HG
      rw [show Oct.getN ⟨d.toArray⟩ ((d.length : Int) - 4) 4 = Ng.lastN d from rfl] at HG
      rw [← hsz] at HG hd3 h20
      unfold sv at hc
      generalize Ng.lastN d = LN at *
      generalize (⟨d.toArray⟩ : ByteArray) = D at *
      have hw4 : IntKind.i64.wrap ((D.size : Int) - 4) = (D.size : Int) - 4 := by rw [IntKind.wrap_i64]; omega
      subst h1 h2
      clear hcell h0 hsz hO hN hP HR HD hdl hf3
      obtain ⟨b0, b1, b2, b3, b4⟩ := B.out.five_all.1
      simp only [Nat.add_zero] at hc
      go_wp2_with fail
      refine (HG.out _).mono ?_
      rintro e w2 ⟨rfl, rfl⟩
      go_wp2
      go_ret2
      exact ⟨rfl, K.out⟩
  · have ht2 : (x.key.t != 6) = true := by rw [bne_iff_ne]; exact ht
    have ht3 : (x.key.t == 6) = false := by rw [beq_eq_false_iff_ne]; exact ht
    have h1 : Ng.minOk x = false := by rw [hO.out, decide_eq_false ht]; simp
    have h2 : Ng.minN x = 0 := by rw [hN.out, h1]; rfl
    rw [h1, h2]
    clear h1 h2 hO hN hP
    replace ht := hide ht
    go_enter Try.func12, Try.ntmps12
    go_upto_region 1 with fail
    generalize w.alloc (.cells #[.string x.key.n, .int .i64 x.key.t, .int .i64 x.key.c, .slice va x.ds.length vc, .int .i64 x.ttl] 35) = W at *
    generalize hF : w.heap.size = F at B ⊢
    replace hF := hide hF
    obtain ⟨b0, b1, b2, b3, b4⟩ := B.out.five_all.1
    go_wp2
    go_ret2
    exact ⟨rfl, K.out⟩
end Go.Proofs.Ytedcjkfiljjpiaa
