/- The laws' words on items. No condition but lengths. -/
import Derived.Test.YtedcjkfiljjpiaaNgP
import Derived.Test.YtedcjkfiljjpiaaGrpA
namespace Go.Proofs.Ytedcjkfiljjpiaa
open Go.RowKit

set_option maxHeartbeats 8000000 in
set_option maxRecDepth 100000 in
theorem told15_any (n sn : ByteArray) (t c st sc ttl u : Int) (nx : Bool) (a : Option Addr) (l cp : Nat) (w : World) :
    Calls Try.prog 19 #[.agg #[.string n, .int .i64 t, .int .i64 c, .bool nx, .string sn, .int .i64 st, .int .i64 sc, .slice a l cp, .int .i64 ttl, .int .i64 u]] w fun e w' => e = .returned (.agg #[.string n, .int .i64 t, .int .i64 c, .bool nx, .string sn, .int .i64 st, .int .i64 sc, .slice a l cp, .int .i64 ttl, .int .i64 u]) ∧ Keeps w w' := by
  have A := hide ((Blk.made w #[.string n, .int .i64 t, .int .i64 c, .bool nx, .string sn, .int .i64 st, .int .i64 sc, .slice a l cp, .int .i64 ttl, .int .i64 u] 48).alloc (.cells #[.string ⟨#[]⟩, .int .i64 0, .int .i64 0, .bool false, .string ⟨#[]⟩, .int .i64 0, .int .i64 0, .slice none 0 0, .int .i64 0, .int .i64 0] 45))
  have R := Blk.made (w.alloc (.cells #[.string n, .int .i64 t, .int .i64 c, .bool nx, .string sn, .int .i64 st, .int .i64 sc, .slice a l cp, .int .i64 ttl, .int .i64 u] 48)) #[.string ⟨#[]⟩, .int .i64 0, .int .i64 0, .bool false, .string ⟨#[]⟩, .int .i64 0, .int .i64 0, .slice none 0 0, .int .i64 0, .int .i64 0] 45
  rw [size_allocG] at R
  replace R := hide R
  have K := hide (((Keeps.refl w).alloc (.cells #[.string n, .int .i64 t, .int .i64 c, .bool nx, .string sn, .int .i64 st, .int .i64 sc, .slice a l cp, .int .i64 ttl, .int .i64 u] 48)).alloc (.cells #[.string ⟨#[]⟩, .int .i64 0, .int .i64 0, .bool false, .string ⟨#[]⟩, .int .i64 0, .int .i64 0, .slice none 0 0, .int .i64 0, .int .i64 0] 45))
  go_enter Try.func19, Try.ntmps19
  go_upto_region 1 with fail
  generalize (w.alloc (.cells #[.string n, .int .i64 t, .int .i64 c, .bool nx, .string sn, .int .i64 st, .int .i64 sc, .slice a l cp, .int .i64 ttl, .int .i64 u] 48)).alloc (.cells #[.string ⟨#[]⟩, .int .i64 0, .int .i64 0, .bool false, .string ⟨#[]⟩, .int .i64 0, .int .i64 0, .slice none 0 0, .int .i64 0, .int .i64 0] 45) = W at *
  have hle : Hid (w.heap.size ≤ w.heap.size + 1) := Nat.le_succ _
  generalize w.heap.size + 1 = G at *
  generalize hF : w.heap.size = F at A ⊢
  replace hF := hide hF
  obtain ⟨⟨a0, a1, a2, a3, a4, a5, a6, a7, a8, a9⟩, _, _⟩ := A.out.ten
  obtain ⟨⟨r0, r1, r2, r3, r4, r5, r6, r7, r8, r9⟩, ⟨g0, g1, g2, g3, g4, g5, g6, g7, g8, g9⟩, _⟩ := R.out.ten
  have R3 := hide (set10_blk R.out (.string n) (.int .i64 t) (.int .i64 c) (.bool nx) (.string sn) (.int .i64 st) (.int .i64 sc) (.slice a l cp) (.int .i64 ttl) (.int .i64 u))
  have K3 := hide (set10_keeps K.out hle.out (.string n) (.int .i64 t) (.int .i64 c) (.bool nx) (.string sn) (.int .i64 st) (.int .i64 sc) (.slice a l cp) (.int .i64 ttl) (.int .i64 u))
  unfold set10 at R3 K3
  clear A R K
  go_wp2_with fail
  generalize (((((((((W.setCell ⟨G, 0, none⟩ (.string n)).setCell ⟨G, 1, none⟩ (.int .i64 t)).setCell ⟨G, 2, none⟩ (.int .i64 c)).setCell ⟨G, 3, none⟩ (.bool nx)).setCell ⟨G, 4, none⟩ (.string sn)).setCell ⟨G, 5, none⟩ (.int .i64 st)).setCell ⟨G, 6, none⟩ (.int .i64 sc)).setCell ⟨G, 7, none⟩ (.slice a l cp)).setCell ⟨G, 8, none⟩ (.int .i64 ttl)).setCell ⟨G, 9, none⟩ (.int .i64 u) = W9 at *
  obtain ⟨⟨s0, s1, s2, s3, s4, s5, s6, s7, s8, s9⟩, _, _⟩ := R3.out.ten
  exact bodyPost_ret (v := .agg #[.string n, .int .i64 t, .int .i64 c, .bool nx, .string sn, .int .i64 st, .int .i64 sc, .slice a l cp, .int .i64 ttl, .int .i64 u]) (by simp [results, Try.results19, go_sem, s0, s1, s2, s3, s4, s5, s6, s7, s8, s9]) rfl ⟨rfl, K3.out⟩

theorem beq_bool (x : Bool) : (x == x) = true := by cases x <;> rfl
set_option maxHeartbeats 8000000 in
set_option maxRecDepth 100000 in
theorem One15_same (vd ud : Value) (a : Ni) (w : World) (hv : ReadS w vd a.soa.ds) (hu : ReadS w ud a.soa.ds) (hl : a.soa.ds.length ≤ 1099511627776) :
    Calls Try.prog 18 #[niV a vd, niV a ud] w fun e w' => e = .returned (.bool true) ∧ Keeps w w' := by
  have HS := hide (fun W (kk : Keeps w W) => refGSame_any _ _ a.soa a.soa W (StAt.keeps ⟨vd, rfl, hv⟩ kk) (StAt.keeps ⟨ud, rfl, hu⟩ kk) hl)
  rw [decide_eq_true rfl] at HS
  obtain ⟨va, vc, rfl⟩ := hv.len
  obtain ⟨ua, uc, rfl⟩ := hu.len
  have rn := eql_qn a.key a.key
  rw [decide_eq_true rfl] at rn
  unfold niV
  have X := hide ((Blk.made w #[.string a.key.n, .int .i64 a.key.t, .int .i64 a.key.c, .bool a.nx, .string a.soa.key.n, .int .i64 a.soa.key.t, .int .i64 a.soa.key.c, .slice va a.soa.ds.length vc, .int .i64 a.soa.ttl, .int .i64 a.u] 45).alloc (.cells #[.string a.key.n, .int .i64 a.key.t, .int .i64 a.key.c, .bool a.nx, .string a.soa.key.n, .int .i64 a.soa.key.t, .int .i64 a.soa.key.c, .slice ua a.soa.ds.length uc, .int .i64 a.soa.ttl, .int .i64 a.u] 45))
  have Y := Blk.made (w.alloc (.cells #[.string a.key.n, .int .i64 a.key.t, .int .i64 a.key.c, .bool a.nx, .string a.soa.key.n, .int .i64 a.soa.key.t, .int .i64 a.soa.key.c, .slice va a.soa.ds.length vc, .int .i64 a.soa.ttl, .int .i64 a.u] 45)) #[.string a.key.n, .int .i64 a.key.t, .int .i64 a.key.c, .bool a.nx, .string a.soa.key.n, .int .i64 a.soa.key.t, .int .i64 a.soa.key.c, .slice ua a.soa.ds.length uc, .int .i64 a.soa.ttl, .int .i64 a.u] 45
  rw [size_allocG] at Y
  replace Y := hide Y
  have K := hide (((Keeps.refl w).alloc (.cells #[.string a.key.n, .int .i64 a.key.t, .int .i64 a.key.c, .bool a.nx, .string a.soa.key.n, .int .i64 a.soa.key.t, .int .i64 a.soa.key.c, .slice va a.soa.ds.length vc, .int .i64 a.soa.ttl, .int .i64 a.u] 45)).alloc (.cells #[.string a.key.n, .int .i64 a.key.t, .int .i64 a.key.c, .bool a.nx, .string a.soa.key.n, .int .i64 a.soa.key.t, .int .i64 a.soa.key.c, .slice ua a.soa.ds.length uc, .int .i64 a.soa.ttl, .int .i64 a.u] 45))
  have hb := beq_bool a.nx
  go_enter Try.func18, Try.ntmps18
  go_upto_region 1 with fail
  generalize (w.alloc (.cells #[.string a.key.n, .int .i64 a.key.t, .int .i64 a.key.c, .bool a.nx, .string a.soa.key.n, .int .i64 a.soa.key.t, .int .i64 a.soa.key.c, .slice va a.soa.ds.length vc, .int .i64 a.soa.ttl, .int .i64 a.u] 45)).alloc (.cells #[.string a.key.n, .int .i64 a.key.t, .int .i64 a.key.c, .bool a.nx, .string a.soa.key.n, .int .i64 a.soa.key.t, .int .i64 a.soa.key.c, .slice ua a.soa.ds.length uc, .int .i64 a.soa.ttl, .int .i64 a.u] 45) = W at *
  generalize w.heap.size + 1 = G at *
  generalize hF : w.heap.size = F at X ⊢
  replace hF := hide hF
  obtain ⟨x0, x1, x2, x3, x4, x5, x6, x7, x8, x9⟩ := X.out.ten.1
  obtain ⟨y0, y1, y2, y3, y4, y5, y6, y7, y8, y9⟩ := Y.out.ten.1
  go_wp2_with fail
  refine (HS.out _ K.out).mono ?_
  rintro e w1 ⟨rfl, k1⟩
  replace K := hide (K.out.trans k1)
  clear k1
  go_wp2
  go_ret
  exact ⟨rfl, K.out⟩
end Go.Proofs.Ytedcjkfiljjpiaa
