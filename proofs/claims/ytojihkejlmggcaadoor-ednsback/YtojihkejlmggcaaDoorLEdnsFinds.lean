/- EdnsFinds answers true, for every input: the walk. The condition: the table of places reads as the program's text lays it. -/
import Derived.Test.YtojihkejlmggcaaDoorEdnsLive
import Derived.Test.YtojihkejlmggcaaDoorShapesM
namespace Go.Proofs.YtojihkejlmggcaaDoor
open Go.RowKit

theorem MsAt.shape {w : World} {v : Value} {m : Ms} (h : MsAt w v m) : ∃ aq kq aa ka an kn ar kr, v = .agg #[.int .i64 m.id, .int .i64 m.bits, .slice aq m.qs.length kq, .slice aa m.an.length ka, .slice an m.ns.length kn, .slice ar m.ar.length kr] := by
  obtain ⟨vq, va, vn, vr, rfl, rq, ra, rn, rr⟩ := h
  obtain ⟨aq, kq, h1⟩ := rq.len
  obtain ⟨aa, ka, h2⟩ := ra.len
  obtain ⟨an, kn, h3⟩ := rn.len
  obtain ⟨ar, kr, h4⟩ := rr.len
  rw [List.length_map] at h1 h2 h3 h4
  subst h1 h2 h3 h4
  exact ⟨aq, kq, aa, ka, an, kn, ar, kr, rfl⟩

set_option maxHeartbeats 4000000 in
set_option maxRecDepth 100000 in
theorem EdnsFinds_walk (v : Value) (m : Ms) (w : World) (T : Tab w) (hM : MsAt w v m) (hf : MsFine m) (_ : MsIn m) (hz : m.qs.length ≤ reachBytes ∧ m.an.length ≤ reachBytes ∧ m.ns.length ≤ reachBytes ∧ m.ar.length ≤ reachBytes) :
    Calls Tryd.prog 3 #[v] w fun e w' => e = .returned (.bool true) ∧ Keeps w w' := by
  have hsum : m.qs.length + m.an.length + m.ns.length + m.ar.length ≤ 9223372036854775807 := by
    have : reachBytes ≤ 140737488355328 := by decide
    omega
  obtain ⟨aq, kq, aa, ka, an, kn, ar, kr, rfl⟩ := hM.shape
  have HS := hide (fun W (k : Keeps w W) => Small_any _ m W (hM.keeps k) hf hsum)
  have HF := hide (fun W (k : Keeps w W) => Find_any _ m W (hM.keeps k) hf)
  have HR := hide (fun W (k : Keeps w W) => refFind_any _ m W (hM.keeps k) hf)
  have HT := hide T
  clear T
  have B := hide (Blk.made w #[.int .i64 m.id, .int .i64 m.bits, .slice aq m.qs.length kq, .slice aa m.an.length ka, .slice an m.ns.length kn, .slice ar m.ar.length kr] 25)
  have K := hide ((Keeps.refl w).alloc (.cells #[.int .i64 m.id, .int .i64 m.bits, .slice aq m.qs.length kq, .slice aa m.an.length ka, .slice an m.ns.length kn, .slice ar m.ar.length kr] 25))
  clear hM hz hsum
  generalize findM m = R at *
  obtain ⟨⟨h, s, x, u, d⟩, n⟩ := R
  simp only [opV] at HF HR
  generalize smallM m = sm at *
  go_enter Tryd.func3, Tryd.ntmps3
  go_upto_region 1 with fail
  generalize w.alloc (.cells #[.int .i64 m.id, .int .i64 m.bits, .slice aq m.qs.length kq, .slice aa m.an.length ka, .slice an m.ns.length kn, .slice ar m.ar.length kr] 25) = W at *
  generalize w.heap.size = M at *
  obtain ⟨y0, y1, y2, y3, y4, y5, y6⟩ := B.out.six6
  go_wp2_with fail
  refine (HS.out _ K.out).mono ?_
  rintro e w1 ⟨rfl, k1⟩
  replace B := hide (B.out.keeps k1)
  replace K := hide (K.out.trans k1)
  clear k1 HS y0 y1 y2 y3 y4 y5 y6
  cases sm
  · go_wp2_with fail
    refine (live9_any _ (HT.out.keeps K.out)).mono ?_
    rintro e w2 ⟨rfl, k1⟩
    go_wp2
    go_ret
    exact ⟨rfl, K.out.trans k1⟩
  obtain ⟨y0, y1, y2, y3, y4, y5, y6⟩ := B.out.six6
  go_wp2_with fail
  refine (HF.out _ K.out).mono ?_
  rintro e w2 ⟨rfl, k1⟩
  replace B := hide (B.out.keeps k1)
  replace K := hide (K.out.trans k1)
  clear k1 HF y0 y1 y2 y3 y4 y5 y6
  go_upto_region 4 with fail
  have k1 := (Keeps.refl w2).alloc (.cells #[.bool h, .int .i64 s, .int .i64 x, .int .i64 u, .bool d] 29)
  have BA := hide (Blk.made w2 #[.bool h, .int .i64 s, .int .i64 x, .int .i64 u, .bool d] 29)
  replace B := hide (B.out.keeps k1)
  replace K := hide (K.out.trans k1)
  clear k1
  generalize w2.alloc (.cells #[.bool h, .int .i64 s, .int .i64 x, .int .i64 u, .bool d] 29) = W2 at *
  generalize w2.heap.size = G2 at *
  obtain ⟨y0, y1, y2, y3, y4, y5, y6⟩ := B.out.six6
  go_wp2_with fail
  refine (HR.out _ K.out).mono ?_
  rintro e w3 ⟨rfl, k1⟩
  replace BA := hide (BA.out.keeps k1)
  replace K := hide (K.out.trans k1)
  clear k1 HR y0 y1 y2 y3 y4 y5 y6 B
  go_upto_region 5 with fail
  have k1 := (Keeps.refl w3).alloc (.cells #[.bool h, .int .i64 s, .int .i64 x, .int .i64 u, .bool d] 33)
  have BB := hide (Blk.made w3 #[.bool h, .int .i64 s, .int .i64 x, .int .i64 u, .bool d] 33)
  replace BA := hide (BA.out.keeps k1)
  replace K := hide (K.out.trans k1)
  clear k1
  generalize w3.alloc (.cells #[.bool h, .int .i64 s, .int .i64 x, .int .i64 u, .bool d] 33) = W3 at *
  generalize w3.heap.size = G3 at *
  obtain ⟨a0, a1, a2, a3, a4, _, _, _, _, _, _⟩ := BA.out.cell5
  obtain ⟨b0, b1, b2, b3, b4, _, _, _, _, _, _⟩ := BB.out.cell5
  go_wp2_with fail
  refine (live9_any _ (HT.out.keeps K.out)).mono ?_
  rintro e w4 ⟨rfl, k1⟩
  replace K := hide (K.out.trans k1)
  clear k1
  go_wp2
  go_ret
  exact ⟨rfl, K.out⟩
end Go.Proofs.YtojihkejlmggcaaDoor
