/- Same of package group, and the document's. No condition but lengths. -/
import Derived.Test.YtgfaoaabnjblhaaGrp9
namespace Go.Proofs.Ytgfaoaabnjblhaa
open Go.RowKit

theorem eql_qn (p q : Qn) (w : World) : (binOp .eql 32 (.agg #[.string p.n, .int .i64 p.t, .int .i64 p.c]) (.agg #[.string q.n, .int .i64 q.t, .int .i64 q.c])).run Try.prog w = .ok (.bool (decide (p = q))) w := by
  obtain ⟨a, x, y⟩ := p
  obtain ⟨b, z, u⟩ := q
  simp [go_sem, bytes_eq]
  by_cases h1 : a = b
  · by_cases h2 : x = z
    · by_cases h3 : y = u
      · simp [h1, h2, h3]
      · simp [h1, h2, h3]
    · simp [h1, h2]
  · simp [h1]

set_option maxHeartbeats 4000000 in
set_option maxRecDepth 100000 in
theorem refGSame_any (v u : Value) (s k : St) (w : World) (hv : StAt w v s) (hu : StAt w u k) (hm : s.ds.length ≤ 1099511627776) :
    Calls Try.prog 27 #[v, u] w fun e w' => e = .returned (.bool (decide (s = k))) ∧ Keeps w w' := by
  obtain ⟨vd, rfl, hd⟩ := hv
  obtain ⟨ud, rfl, he⟩ := hu
  have HE := hide (fun W (kk : Keeps w W) => texts_any vd ud s.ds k.ds W (hd.keeps kk) (he.keeps kk) hm)
  have HBE : Hid ((s.ds == k.ds) = decide (s.ds = k.ds)) := by rw [Hid]; by_cases h : s.ds = k.ds <;> simp [h]
  rw [HBE.out] at HE
  have B1 := hide ((Blk.made w #[.string s.key.n, .int .i64 s.key.t, .int .i64 s.key.c, vd, .int .i64 s.ttl] 35).alloc (.cells #[.string k.key.n, .int .i64 k.key.t, .int .i64 k.key.c, ud, .int .i64 k.ttl] 35))
  have B2 := Blk.made (w.alloc (.cells #[.string s.key.n, .int .i64 s.key.t, .int .i64 s.key.c, vd, .int .i64 s.ttl] 35)) #[.string k.key.n, .int .i64 k.key.t, .int .i64 k.key.c, ud, .int .i64 k.ttl] 35
  rw [size_allocG] at B2
  replace B2 := hide B2
  have K := hide (((Keeps.refl w).alloc (.cells #[.string s.key.n, .int .i64 s.key.t, .int .i64 s.key.c, vd, .int .i64 s.ttl] 35)).alloc (.cells #[.string k.key.n, .int .i64 k.key.t, .int .i64 k.key.c, ud, .int .i64 k.ttl] 35))
  have HR : Hid (decide (s = k) = (decide (s.key = k.key) && decide (s.ttl = k.ttl) && decide (s.ds = k.ds))) := by
    obtain ⟨a, b, c⟩ := s
    obtain ⟨d, e, f⟩ := k
    rw [Hid]
    by_cases h1 : a = d <;> by_cases h2 : b = e <;> by_cases h3 : c = f <;> simp [h1, h2, h3]
  have rq := eql_qn s.key k.key
  generalize decide (s = k) = R at *
  generalize decide (s.ds = k.ds) = D at *
  obtain ⟨a1, c1, hs1⟩ := hd.len
  obtain ⟨a2, c2, hs2⟩ := he.len
  subst hs1 hs2
  clear hd he
  go_enter Try.func27, Try.ntmps27
  go_upto_region 1 with fail
  generalize (w.alloc (.cells #[.string s.key.n, .int .i64 s.key.t, .int .i64 s.key.c, .slice a1 s.ds.length c1, .int .i64 s.ttl] 35)).alloc (.cells #[.string k.key.n, .int .i64 k.key.t, .int .i64 k.key.c, .slice a2 k.ds.length c2, .int .i64 k.ttl] 35) = W at *
  generalize w.heap.size + 1 = G2 at *
  obtain ⟨b0, b1, b2, b3, b4, _⟩ := B1.out.five_cells
  obtain ⟨d0, d1, d2, d3, d4, _⟩ := B2.out.five_cells
  by_cases h1 : s.key = k.key
  · rw [decide_eq_true h1] at rq HR
    replace h1 := hide h1
    by_cases h2 : s.ttl = k.ttl
    · rw [decide_eq_true h2] at HR
      have h2b : (s.ttl == k.ttl) = true := by rw [beq_iff_eq]; exact h2
      replace h2 := hide h2
      go_wp2_with fail
      refine (HE.out _ K.out).mono ?_
      rintro e w2 ⟨rfl, k1⟩
      replace K := hide (K.out.trans k1)
      have HZ : Hid (R = D) := by rw [Hid, HR.out]; simp
      go_wp2
      go_ret
      exact ⟨ret_bool HZ.out.symm, K.out⟩
    · rw [decide_eq_false h2] at HR
      have h2b : (s.ttl == k.ttl) = false := by rw [beq_eq_false_iff_ne]; exact h2
      have HZ : Hid (R = false) := by rw [Hid, HR.out]; simp
      replace h2 := hide h2
      go_wp2
      go_ret
      exact ⟨ret_bool HZ.out.symm, K.out⟩
  · rw [decide_eq_false h1] at rq HR
    have HZ : Hid (R = false) := by rw [Hid, HR.out]; simp
    replace h1 := hide h1
    go_wp2
    go_ret
    exact ⟨ret_bool HZ.out.symm, K.out⟩
end Go.Proofs.Ytgfaoaabnjblhaa
