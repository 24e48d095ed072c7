/- What is not there: something is put. No condition but lengths. (Made by tools/genput15.py.) -/
import Derived.Test.YtedcjkfiljjpiaaNgK
import Derived.Test.YtedcjkfiljjpiaaNgF
import Derived.Test.YtedcjkfiljjpiaaNgQ
namespace Go.Proofs.Ytedcjkfiljjpiaa
open Go.RowKit

/-- What Put comes to. -/
def PutNEnd (w : World) (p m : Nat) (c : Int) (s' : Ngs) (e : Ending) (w' : World) : Prop := e = .returned (.int .i64 c) ∧ NAt w' p m s' ∧ KB p m w w'

set_option maxHeartbeats 16000000 in
set_option maxRecDepth 100000 in
theorem PutN_nil (now : Int) (q : Qn) (nx : Bool) (v : Value) (x : St) (w : World) (hx : StAt w v x) (hf : StFine x) (hq : QnFine q) :
    Calls Try.prog 15 #[.pointer none, .int .i64 now, .agg #[.string q.n, .int .i64 q.t, .int .i64 q.c], .bool nx, v] w fun e w' => e = .returned (.int .i64 1) ∧ Keeps w w' := by
  have HMIN := hide (fun W (kk : Keeps w W) => Minimum_any v x W (hx.keeps kk) hf)
  have HAS := hide (fun W => isAskedN_any q W hq.1)
  have hmb := Ng.minN_in x
  have HU := hide (fun W => until_any now (Ng.minN x) W (by omega))
  clear hmb
  generalize hTL : Ag.till now (Ng.minN x) = TL at *
  generalize hMN : Ng.minN x = MN at *
  generalize hMO : Ng.minOk x = MO at *
  generalize hGQ : Ng.goodQ q = GQ at *
  replace hTL := hide hTL
  replace hMN := hide hMN
  replace hMO := hide hMO
  replace hGQ := hide hGQ
  have hxD := hide hx
  obtain ⟨vd, rfl, hds⟩ := hx
  have HDS := hide hds
  obtain ⟨va, vc, rfl⟩ := hds.len
  clear hds
  have B := hide ((Blk.made w #[.string q.n, .int .i64 q.t, .int .i64 q.c] 32).alloc (.cells #[.string x.key.n, .int .i64 x.key.t, .int .i64 x.key.c, .slice va x.ds.length vc, .int .i64 x.ttl] 35))
  have C := Blk.made (w.alloc (.cells #[.string q.n, .int .i64 q.t, .int .i64 q.c] 32)) #[.string x.key.n, .int .i64 x.key.t, .int .i64 x.key.c, .slice va x.ds.length vc, .int .i64 x.ttl] 35
  rw [size_allocG] at C
  replace C := hide C
  have K := hide (((Keeps.refl w).alloc (.cells #[.string q.n, .int .i64 q.t, .int .i64 q.c] 32)).alloc (.cells #[.string x.key.n, .int .i64 x.key.t, .int .i64 x.key.c, .slice va x.ds.length vc, .int .i64 x.ttl] 35))
  go_enter Try.func15, Try.ntmps15
  go_upto_region 1 with fail
  generalize (w.alloc (.cells #[.string q.n, .int .i64 q.t, .int .i64 q.c] 32)).alloc (.cells #[.string x.key.n, .int .i64 x.key.t, .int .i64 x.key.c, .slice va x.ds.length vc, .int .i64 x.ttl] 35) = W at *
  have hle : Hid (w.heap.size ≤ w.heap.size + 1 ∧ w.heap.size ≤ w.heap.size ∧ w.heap.size ≠ w.heap.size + 1) := by rw [Hid]; omega
  generalize w.heap.size + 1 = G at *
  generalize hF : w.heap.size = F at B hle ⊢
  replace hF := hide hF
  obtain ⟨c0, c1, c2, c3, c4⟩ := C.out.five_all.1
  go_wp2_with fail
  refine (HMIN.out _ K.out).mono ?_
  rintro e w1 ⟨rfl, k1⟩
  replace B := hide (B.out.keeps k1)
  replace C := hide (C.out.keeps k1)
  replace K := hide (K.out.trans k1)
  clear k1
  clear c0 c1 c2 c3 c4 HMIN
  go_wp2_with fail
  refine (HU.out _).mono ?_
  rintro e w2 ⟨rfl, rfl⟩
  clear HU
  go_wp2_with fail
  refine (isMadeN_nil _).mono ?_
  rintro e w2 ⟨rfl, rfl⟩
  go_wp2
  go_ret
  exact ⟨rfl, K.out⟩

set_option maxHeartbeats 16000000 in
set_option maxRecDepth 100000 in
theorem PutN_arg1 (p m : Nat) (s : Ngs) (now : Int) (q : Qn) (nx : Bool) (v : Value) (x : St) (w : World) (hx : StAt w v x) (hf : StFine x) (hq : QnFine q) (h : NAt w p m s) (h1 : Ag.till now (Ng.minN x) < 0) :
    Calls Try.prog 15 #[.pointer (some ⟨p, 0, none⟩), .int .i64 now, .agg #[.string q.n, .int .i64 q.t, .int .i64 q.c], .bool nx, v] w fun e w' => e = .returned (.int .i64 1) ∧ Keeps w w' := by
  have HMIN := hide (fun W (kk : Keeps w W) => Minimum_any v x W (hx.keeps kk) hf)
  have HMD := hide (fun W (kk : Keeps w W) => isMadeN_any p m s W (h.keeps kk))
  have HAS := hide (fun W => isAskedN_any q W hq.1)
  have hmb := Ng.minN_in x
  have HU := hide (fun W => until_any now (Ng.minN x) W (by omega))
  clear hmb
  generalize hTL : Ag.till now (Ng.minN x) = TL at *
  generalize hMN : Ng.minN x = MN at *
  generalize hMO : Ng.minOk x = MO at *
  generalize hGQ : Ng.goodQ q = GQ at *
  replace hTL := hide hTL
  replace hMN := hide hMN
  replace hMO := hide hMO
  replace hGQ := hide hGQ
  have hxD := hide hx
  obtain ⟨vd, rfl, hds⟩ := hx
  have HDS := hide hds
  obtain ⟨va, vc, rfl⟩ := hds.len
  clear hds
  have B := hide ((Blk.made w #[.string q.n, .int .i64 q.t, .int .i64 q.c] 32).alloc (.cells #[.string x.key.n, .int .i64 x.key.t, .int .i64 x.key.c, .slice va x.ds.length vc, .int .i64 x.ttl] 35))
  have C := Blk.made (w.alloc (.cells #[.string q.n, .int .i64 q.t, .int .i64 q.c] 32)) #[.string x.key.n, .int .i64 x.key.t, .int .i64 x.key.c, .slice va x.ds.length vc, .int .i64 x.ttl] 35
  rw [size_allocG] at C
  replace C := hide C
  have K := hide (((Keeps.refl w).alloc (.cells #[.string q.n, .int .i64 q.t, .int .i64 q.c] 32)).alloc (.cells #[.string x.key.n, .int .i64 x.key.t, .int .i64 x.key.c, .slice va x.ds.length vc, .int .i64 x.ttl] 35))
  go_enter Try.func15, Try.ntmps15
  go_upto_region 1 with fail
  generalize (w.alloc (.cells #[.string q.n, .int .i64 q.t, .int .i64 q.c] 32)).alloc (.cells #[.string x.key.n, .int .i64 x.key.t, .int .i64 x.key.c, .slice va x.ds.length vc, .int .i64 x.ttl] 35) = W at *
  have hle : Hid (w.heap.size ≤ w.heap.size + 1 ∧ w.heap.size ≤ w.heap.size ∧ w.heap.size ≠ w.heap.size + 1) := by rw [Hid]; omega
  generalize w.heap.size + 1 = G at *
  generalize hF : w.heap.size = F at B hle ⊢
  replace hF := hide hF
  obtain ⟨c0, c1, c2, c3, c4⟩ := C.out.five_all.1
  go_wp2_with fail
  refine (HMIN.out _ K.out).mono ?_
  rintro e w1 ⟨rfl, k1⟩
  replace B := hide (B.out.keeps k1)
  replace C := hide (C.out.keeps k1)
  replace K := hide (K.out.trans k1)
  clear k1
  clear c0 c1 c2 c3 c4 HMIN
  go_wp2_with fail
  refine (HU.out _).mono ?_
  rintro e w2 ⟨rfl, rfl⟩
  clear HU
  go_wp2_with fail
  refine (HMD.out _ K.out).mono ?_
  rintro e w2 ⟨rfl, rfl⟩
  clear HMD
  go_wp2
  go_ret
  exact ⟨rfl, K.out⟩

set_option maxHeartbeats 16000000 in
set_option maxRecDepth 100000 in
theorem PutN_arg2 (p m : Nat) (s : Ngs) (now : Int) (q : Qn) (nx : Bool) (v : Value) (x : St) (w : World) (hx : StAt w v x) (hf : StFine x) (hq : QnFine q) (h : NAt w p m s) (h1 : ¬ Ag.till now (Ng.minN x) < 0) (h2 : Ng.minOk x = false) :
    Calls Try.prog 15 #[.pointer (some ⟨p, 0, none⟩), .int .i64 now, .agg #[.string q.n, .int .i64 q.t, .int .i64 q.c], .bool nx, v] w fun e w' => e = .returned (.int .i64 1) ∧ Keeps w w' := by
  have HMIN := hide (fun W (kk : Keeps w W) => Minimum_any v x W (hx.keeps kk) hf)
  have HMD := hide (fun W (kk : Keeps w W) => isMadeN_any p m s W (h.keeps kk))
  have HAS := hide (fun W => isAskedN_any q W hq.1)
  have hmb := Ng.minN_in x
  have HU := hide (fun W => until_any now (Ng.minN x) W (by omega))
  clear hmb
  generalize hTL : Ag.till now (Ng.minN x) = TL at *
  generalize hMN : Ng.minN x = MN at *
  generalize hMO : Ng.minOk x = MO at *
  generalize hGQ : Ng.goodQ q = GQ at *
  replace hTL := hide hTL
  replace hMN := hide hMN
  replace hMO := hide hMO
  replace hGQ := hide hGQ
  have hxD := hide hx
  obtain ⟨vd, rfl, hds⟩ := hx
  have HDS := hide hds
  obtain ⟨va, vc, rfl⟩ := hds.len
  clear hds
  have B := hide ((Blk.made w #[.string q.n, .int .i64 q.t, .int .i64 q.c] 32).alloc (.cells #[.string x.key.n, .int .i64 x.key.t, .int .i64 x.key.c, .slice va x.ds.length vc, .int .i64 x.ttl] 35))
  have C := Blk.made (w.alloc (.cells #[.string q.n, .int .i64 q.t, .int .i64 q.c] 32)) #[.string x.key.n, .int .i64 x.key.t, .int .i64 x.key.c, .slice va x.ds.length vc, .int .i64 x.ttl] 35
  rw [size_allocG] at C
  replace C := hide C
  have K := hide (((Keeps.refl w).alloc (.cells #[.string q.n, .int .i64 q.t, .int .i64 q.c] 32)).alloc (.cells #[.string x.key.n, .int .i64 x.key.t, .int .i64 x.key.c, .slice va x.ds.length vc, .int .i64 x.ttl] 35))
  go_enter Try.func15, Try.ntmps15
  go_upto_region 1 with fail
  generalize (w.alloc (.cells #[.string q.n, .int .i64 q.t, .int .i64 q.c] 32)).alloc (.cells #[.string x.key.n, .int .i64 x.key.t, .int .i64 x.key.c, .slice va x.ds.length vc, .int .i64 x.ttl] 35) = W at *
  have hle : Hid (w.heap.size ≤ w.heap.size + 1 ∧ w.heap.size ≤ w.heap.size ∧ w.heap.size ≠ w.heap.size + 1) := by rw [Hid]; omega
  generalize w.heap.size + 1 = G at *
  generalize hF : w.heap.size = F at B hle ⊢
  replace hF := hide hF
  obtain ⟨c0, c1, c2, c3, c4⟩ := C.out.five_all.1
  go_wp2_with fail
  refine (HMIN.out _ K.out).mono ?_
  rintro e w1 ⟨rfl, k1⟩
  replace B := hide (B.out.keeps k1)
  replace C := hide (C.out.keeps k1)
  replace K := hide (K.out.trans k1)
  clear k1
  clear c0 c1 c2 c3 c4 HMIN
  go_wp2_with fail
  refine (HU.out _).mono ?_
  rintro e w2 ⟨rfl, rfl⟩
  clear HU
  go_wp2_with fail
  refine (HMD.out _ K.out).mono ?_
  rintro e w2 ⟨rfl, rfl⟩
  clear HMD
  subst h2
  go_wp2
  go_ret
  exact ⟨rfl, K.out⟩

set_option maxHeartbeats 16000000 in
set_option maxRecDepth 100000 in
theorem PutN_arg3 (p m : Nat) (s : Ngs) (now : Int) (q : Qn) (nx : Bool) (v : Value) (x : St) (w : World) (hx : StAt w v x) (hf : StFine x) (hq : QnFine q) (h : NAt w p m s) (h1 : ¬ Ag.till now (Ng.minN x) < 0) (h2 : Ng.minOk x = true) (h3 : Ng.goodQ q = false) :
    Calls Try.prog 15 #[.pointer (some ⟨p, 0, none⟩), .int .i64 now, .agg #[.string q.n, .int .i64 q.t, .int .i64 q.c], .bool nx, v] w fun e w' => e = .returned (.int .i64 1) ∧ Keeps w w' := by
  have HMIN := hide (fun W (kk : Keeps w W) => Minimum_any v x W (hx.keeps kk) hf)
  have HMD := hide (fun W (kk : Keeps w W) => isMadeN_any p m s W (h.keeps kk))
  have HAS := hide (fun W => isAskedN_any q W hq.1)
  have hmb := Ng.minN_in x
  have HU := hide (fun W => until_any now (Ng.minN x) W (by omega))
  clear hmb
  generalize hTL : Ag.till now (Ng.minN x) = TL at *
  generalize hMN : Ng.minN x = MN at *
  generalize hMO : Ng.minOk x = MO at *
  generalize hGQ : Ng.goodQ q = GQ at *
  replace hTL := hide hTL
  replace hMN := hide hMN
  replace hMO := hide hMO
  replace hGQ := hide hGQ
  have hxD := hide hx
  obtain ⟨vd, rfl, hds⟩ := hx
  have HDS := hide hds
  obtain ⟨va, vc, rfl⟩ := hds.len
  clear hds
  have B := hide ((Blk.made w #[.string q.n, .int .i64 q.t, .int .i64 q.c] 32).alloc (.cells #[.string x.key.n, .int .i64 x.key.t, .int .i64 x.key.c, .slice va x.ds.length vc, .int .i64 x.ttl] 35))
  have C := Blk.made (w.alloc (.cells #[.string q.n, .int .i64 q.t, .int .i64 q.c] 32)) #[.string x.key.n, .int .i64 x.key.t, .int .i64 x.key.c, .slice va x.ds.length vc, .int .i64 x.ttl] 35
  rw [size_allocG] at C
  replace C := hide C
  have K := hide (((Keeps.refl w).alloc (.cells #[.string q.n, .int .i64 q.t, .int .i64 q.c] 32)).alloc (.cells #[.string x.key.n, .int .i64 x.key.t, .int .i64 x.key.c, .slice va x.ds.length vc, .int .i64 x.ttl] 35))
  go_enter Try.func15, Try.ntmps15
  go_upto_region 1 with fail
  generalize (w.alloc (.cells #[.string q.n, .int .i64 q.t, .int .i64 q.c] 32)).alloc (.cells #[.string x.key.n, .int .i64 x.key.t, .int .i64 x.key.c, .slice va x.ds.length vc, .int .i64 x.ttl] 35) = W at *
  have hle : Hid (w.heap.size ≤ w.heap.size + 1 ∧ w.heap.size ≤ w.heap.size ∧ w.heap.size ≠ w.heap.size + 1) := by rw [Hid]; omega
  generalize w.heap.size + 1 = G at *
  generalize hF : w.heap.size = F at B hle ⊢
  replace hF := hide hF
  obtain ⟨c0, c1, c2, c3, c4⟩ := C.out.five_all.1
  go_wp2_with fail
  refine (HMIN.out _ K.out).mono ?_
  rintro e w1 ⟨rfl, k1⟩
  replace B := hide (B.out.keeps k1)
  replace C := hide (C.out.keeps k1)
  replace K := hide (K.out.trans k1)
  clear k1
  clear c0 c1 c2 c3 c4 HMIN
  go_wp2_with fail
  refine (HU.out _).mono ?_
  rintro e w2 ⟨rfl, rfl⟩
  clear HU
  go_wp2_with fail
  refine (HMD.out _ K.out).mono ?_
  rintro e w2 ⟨rfl, rfl⟩
  clear HMD
  subst h2 h3
  obtain ⟨b0, b1, b2⟩ := B.out.three.1
  go_wp2_with fail
  refine (HAS.out _).mono ?_
  rintro e w2 ⟨rfl, k1⟩
  replace B := hide (B.out.keeps k1)
  replace C := hide (C.out.keeps k1)
  replace K := hide (K.out.trans k1)
  clear k1
  clear b0 b1 b2 HAS
  go_wp2
  go_ret
  exact ⟨rfl, K.out⟩

set_option maxHeartbeats 16000000 in
set_option maxRecDepth 100000 in
theorem PutN_time (p m : Nat) (s : Ngs) (now : Int) (q : Qn) (nx : Bool) (v : Value) (x : St) (w : World) (hx : StAt w v x) (hf : StFine x) (hq : QnFine q) (h : NAt w p m s) (h1 : ¬ Ag.till now (Ng.minN x) < 0) (h2 : Ng.minOk x = true) (h3 : Ng.goodQ q = true) (h4 : Ag.live now (Ag.till now (Ng.minN x)) = false) :
    Calls Try.prog 15 #[.pointer (some ⟨p, 0, none⟩), .int .i64 now, .agg #[.string q.n, .int .i64 q.t, .int .i64 q.c], .bool nx, v] w fun e w' => e = .returned (.int .i64 14) ∧ Keeps w w' := by
  have HMIN := hide (fun W (kk : Keeps w W) => Minimum_any v x W (hx.keeps kk) hf)
  have HMD := hide (fun W (kk : Keeps w W) => isMadeN_any p m s W (h.keeps kk))
  have HAS := hide (fun W => isAskedN_any q W hq.1)
  have hmb := Ng.minN_in x
  have HU := hide (fun W => until_any now (Ng.minN x) W (by omega))
  clear hmb
  generalize hTL : Ag.till now (Ng.minN x) = TL at *
  generalize hMN : Ng.minN x = MN at *
  generalize hMO : Ng.minOk x = MO at *
  generalize hGQ : Ng.goodQ q = GQ at *
  replace hTL := hide hTL
  replace hMN := hide hMN
  replace hMO := hide hMO
  replace hGQ := hide hGQ
  have hxD := hide hx
  obtain ⟨vd, rfl, hds⟩ := hx
  have HDS := hide hds
  obtain ⟨va, vc, rfl⟩ := hds.len
  clear hds
  have B := hide ((Blk.made w #[.string q.n, .int .i64 q.t, .int .i64 q.c] 32).alloc (.cells #[.string x.key.n, .int .i64 x.key.t, .int .i64 x.key.c, .slice va x.ds.length vc, .int .i64 x.ttl] 35))
  have C := Blk.made (w.alloc (.cells #[.string q.n, .int .i64 q.t, .int .i64 q.c] 32)) #[.string x.key.n, .int .i64 x.key.t, .int .i64 x.key.c, .slice va x.ds.length vc, .int .i64 x.ttl] 35
  rw [size_allocG] at C
  replace C := hide C
  have K := hide (((Keeps.refl w).alloc (.cells #[.string q.n, .int .i64 q.t, .int .i64 q.c] 32)).alloc (.cells #[.string x.key.n, .int .i64 x.key.t, .int .i64 x.key.c, .slice va x.ds.length vc, .int .i64 x.ttl] 35))
  go_enter Try.func15, Try.ntmps15
  go_upto_region 1 with fail
  generalize (w.alloc (.cells #[.string q.n, .int .i64 q.t, .int .i64 q.c] 32)).alloc (.cells #[.string x.key.n, .int .i64 x.key.t, .int .i64 x.key.c, .slice va x.ds.length vc, .int .i64 x.ttl] 35) = W at *
  have hle : Hid (w.heap.size ≤ w.heap.size + 1 ∧ w.heap.size ≤ w.heap.size ∧ w.heap.size ≠ w.heap.size + 1) := by rw [Hid]; omega
  generalize w.heap.size + 1 = G at *
  generalize hF : w.heap.size = F at B hle ⊢
  replace hF := hide hF
  obtain ⟨c0, c1, c2, c3, c4⟩ := C.out.five_all.1
  go_wp2_with fail
  refine (HMIN.out _ K.out).mono ?_
  rintro e w1 ⟨rfl, k1⟩
  replace B := hide (B.out.keeps k1)
  replace C := hide (C.out.keeps k1)
  replace K := hide (K.out.trans k1)
  clear k1
  clear c0 c1 c2 c3 c4 HMIN
  go_wp2_with fail
  refine (HU.out _).mono ?_
  rintro e w2 ⟨rfl, rfl⟩
  clear HU
  go_wp2_with fail
  refine (HMD.out _ K.out).mono ?_
  rintro e w2 ⟨rfl, rfl⟩
  clear HMD
  subst h2 h3
  generalize hL : Ag.live now TL = L at *
  replace hL := hide hL
  subst h4
  obtain ⟨b0, b1, b2⟩ := B.out.three.1
  go_wp2_with fail
  refine (HAS.out _).mono ?_
  rintro e w2 ⟨rfl, k1⟩
  replace B := hide (B.out.keeps k1)
  replace C := hide (C.out.keeps k1)
  replace K := hide (K.out.trans k1)
  clear k1
  clear b0 b1 b2 HAS
  go_wp2_with fail
  refine (ageLive_any now _ _).mono ?_
  rintro e w3 ⟨rfl, rfl⟩
  rw [hL.out]
  go_wp2
  go_ret
  exact ⟨rfl, K.out⟩

set_option maxHeartbeats 16000000 in
set_option maxRecDepth 100000 in
theorem PutN_ok0 (p m : Nat) (s : Ngs) (now : Int) (q : Qn) (v : Value) (x : St) (w : World) (hx : StAt w v x) (hf : StFine x) (hq : QnFine q) (h : NAt w p m s) (hin : StIn x) (h1 : ¬ Ag.till now (Ng.minN x) < 0) (h2 : Ng.minOk x = true) (h3 : Ng.goodQ q = true) (h4 : Ag.live now (Ag.till now (Ng.minN x)) = true) (hd6 : x.ds.length ≤ 1000000) (hch : s.changes ≤ 1099511627776) :
    Calls Try.prog 15 #[.pointer (some ⟨p, 0, none⟩), .int .i64 now, .agg #[.string q.n, .int .i64 q.t, .int .i64 q.c], .bool false, v] w fun e w' => PutNEnd w p m 0 ⟨s.room, Ng.cut (Ng.without s.items q ++ [⟨q, false, x, Ag.till now (Ng.minN x)⟩]) s.room, s.changes + 1⟩ e w' := by
  have hS := hide h
  have hin2 := hide hin
  obtain ⟨g1, g2, v0, n, f, g3, g4, g5, g6, g7, g8⟩ := h
  have hplt := g3.lt
  have hmlt := g6.lt
  have h := hS.out
  have hIT : NiFine ⟨q, false, x, Ag.till now (Ng.minN x)⟩ := ⟨hq, hf, hin, hd6, (show -9223372036854775808 ≤ Ag.till now (Ng.minN x) ∧ Ag.till now (Ng.minN x) ≤ 9223372036854775807 by have := till_bound now (Ng.minN x); omega)⟩
  have HMIN := hide (fun W (kk : Keeps w W) => Minimum_any v x W (hx.keeps kk) hf)
  have HMD := hide (fun W (kk : Keeps w W) => isMadeN_any p m s W (h.keeps kk))
  have HAS := hide (fun W => isAskedN_any q W hq.1)
  have hmb := Ng.minN_in x
  have HU := hide (fun W => until_any now (Ng.minN x) W (by omega))
  clear hmb
  generalize hTL : Ag.till now (Ng.minN x) = TL at *
  generalize hMN : Ng.minN x = MN at *
  generalize hMO : Ng.minOk x = MO at *
  generalize hGQ : Ng.goodQ q = GQ at *
  replace hTL := hide hTL
  replace hMN := hide hMN
  replace hMO := hide hMO
  replace hGQ := hide hGQ
  have hxD := hide hx
  obtain ⟨vd, rfl, hds⟩ := hx
  have HDS := hide hds
  obtain ⟨va, vc, rfl⟩ := hds.len
  clear hds
  have B := hide ((Blk.made w #[.string q.n, .int .i64 q.t, .int .i64 q.c] 32).alloc (.cells #[.string x.key.n, .int .i64 x.key.t, .int .i64 x.key.c, .slice va x.ds.length vc, .int .i64 x.ttl] 35))
  have C := Blk.made (w.alloc (.cells #[.string q.n, .int .i64 q.t, .int .i64 q.c] 32)) #[.string x.key.n, .int .i64 x.key.t, .int .i64 x.key.c, .slice va x.ds.length vc, .int .i64 x.ttl] 35
  rw [size_allocG] at C
  replace C := hide C
  have K := hide (((Keeps.refl w).alloc (.cells #[.string q.n, .int .i64 q.t, .int .i64 q.c] 32)).alloc (.cells #[.string x.key.n, .int .i64 x.key.t, .int .i64 x.key.c, .slice va x.ds.length vc, .int .i64 x.ttl] 35))
  go_enter Try.func15, Try.ntmps15
  go_upto_region 1 with fail
  generalize (w.alloc (.cells #[.string q.n, .int .i64 q.t, .int .i64 q.c] 32)).alloc (.cells #[.string x.key.n, .int .i64 x.key.t, .int .i64 x.key.c, .slice va x.ds.length vc, .int .i64 x.ttl] 35) = W at *
  have hle : Hid (w.heap.size ≤ w.heap.size + 1 ∧ w.heap.size ≤ w.heap.size ∧ w.heap.size ≠ w.heap.size + 1) := by rw [Hid]; omega
  generalize w.heap.size + 1 = G at *
  generalize hF : w.heap.size = F at B hle ⊢
  replace hF := hide hF
  obtain ⟨c0, c1, c2, c3, c4⟩ := C.out.five_all.1
  go_wp2_with fail
  refine (HMIN.out _ K.out).mono ?_
  rintro e w1 ⟨rfl, k1⟩
  replace B := hide (B.out.keeps k1)
  replace C := hide (C.out.keeps k1)
  replace K := hide (K.out.trans k1)
  clear k1
  clear c0 c1 c2 c3 c4 HMIN
  go_wp2_with fail
  refine (HU.out _).mono ?_
  rintro e w2 ⟨rfl, rfl⟩
  clear HU
  go_wp2_with fail
  refine (HMD.out _ K.out).mono ?_
  rintro e w2 ⟨rfl, rfl⟩
  clear HMD
  have hpX : Hid (F ≠ p ∧ F ≠ m ∧ G ≠ p ∧ G ≠ m) := by have := hF.out; have := hle.out; rw [Hid]; omega
  clear hplt hmlt
  subst h2 h3
  generalize hL : Ag.live now TL = L at *
  replace hL := hide hL
  subst h4
  obtain ⟨b0, b1, b2⟩ := B.out.three.1
  go_wp2_with fail
  refine (HAS.out _).mono ?_
  rintro e w2 ⟨rfl, k1⟩
  replace B := hide (B.out.keeps k1)
  replace C := hide (C.out.keeps k1)
  replace K := hide (K.out.trans k1)
  clear k1
  clear b0 b1 b2 HAS
  go_wp2_with fail
  refine (ageLive_any now _ _).mono ?_
  rintro e w3 ⟨rfl, rfl⟩
  rw [hL.out]
  go_upto_region 9 with fail
  have HOW := hide (fun W (kk : Keeps w W) => ownN_any (.slice va x.ds.length vc) (⟨q, false, x, TL⟩ : Ni) W (HDS.out.keeps kk) hd6)
  have HKP := hide (fun vd' W (kk : Keeps w W) (hform : ∃ a c, vd' = .slice a x.ds.length c) => keepN_any p m s (⟨q, false, x, TL⟩ : Ni) vd' W g1 g2 v0 n f (g3.keeps kk) (g4.keeps kk) g5 (g6.keeps kk) g7 hIT hform hch)
  unfold niV at HOW HKP
  simp only at HOW HKP
  have HF8 := hide g8
  have hpm := hide g1
  have hok := hide g2
  have hITh := hide hIT
  have hchh := hide hch
  clear g1 g2 g3 g4 g5 g6 g7 g8 hIT hf hin h hd6 hch
  obtain ⟨b0, b1, b2⟩ := B.out.three.1
  obtain ⟨c0, c1, c2, c3, c4⟩ := C.out.five_all.1
  go_wp2_with fail
  refine (HOW.out _ K.out).mono ?_
  intro e w6 hE
  obtain ⟨vd', rfl, od, k6⟩ := hE
  obtain ⟨da, dc, hdf⟩ := od.form
  rw [List.length_map] at hdf
  subst hdf
  have OD := hide od
  have hw36 : Hid (p < w3.heap.size ∧ m < w3.heap.size) := (hS.out.keeps K.out).lt
  have hp6 := hide (hS.out.keeps (K.out.trans k6)).lt
  replace K := hide (K.out.trans k6)
  clear od k6 b0 b1 b2 c0 c1 c2 c3 c4 B C HOW
  go_wp2_with fail
  refine (HKP.out _ _ K.out ⟨_, _, rfl⟩).mono ?_
  intro e w7 hE
  obtain ⟨rfl, kb7, vu, n', f', bu, ru, au, mu, hn', hfk⟩ := hE
  have KB7 := hide kb7
  have S7 := hide bu
  have R7 := hide ru
  have AV := hide au
  have M7 := hide mu
  have HFK := hide hfk
  have hnn := hide hn'
  clear kb7 bu ru au mu hfk hn' HKP
  have hw1 : IntKind.i64.wrap (s.changes + 1) = s.changes + 1 := by rw [IntKind.wrap_i64]; have := hok.out.count; have := hchh.out; omega
  obtain ⟨⟨_, _, _, p3⟩, ⟨_, _, _, pf3⟩, _⟩ := S7.out.four_cells
  go_wp2_with fail
  have S9 : Blk (w7.setCell ⟨p, 3, none⟩ (.int .i64 (s.changes + 1))) p #[.int .i64 s.room, .map (some m), vu, .int .i64 (s.changes + 1)] 71 := by have := S7.out.set 3 (.int .i64 (s.changes + 1)); simpa using this
  have KB9 : KB p m w (w7.setCell ⟨p, 3, none⟩ (.int .i64 (s.changes + 1))) := ((KB.of (p := p) (m := m) K.out).trans KB7.out).trans (KB.setP w7 3 _)
  have hAU : Apart vu p m := fun a k cp e => by
    have h1 := AV.out a k cp e
    have h2 := hp6.out.1
    have h3 := hp6.out.2
    exact ⟨by omega, by omega, by omega⟩
  have AD := OD.out.apart hw36.out.1 hw36.out.2
  have hEND : PutNEnd w p m 0 ⟨s.room, Ng.cut (Ng.without s.items q ++ [(⟨q, false, x, TL⟩ : Ni)]) s.room, s.changes + 1⟩ (.returned (.int .i64 0)) (w7.setCell ⟨p, 3, none⟩ (.int .i64 (s.changes + 1))) := by
    refine ⟨rfl, ⟨hpm.out, Ng.put_ok (x := (⟨q, false, x, TL⟩ : Ni)) hok.out hITh.out, vu, n', f', S9, ?_, hAU, M7.out.same (Below.heap_setCell _ _ _ _ (fun e => hpm.out e.symm)), hnn.out, fun k => ?_⟩, KB9⟩
    · exact R7.out.setOther (x := ⟨p, 3, none⟩) (fun a k cp e => (hAU a k cp e).1) _
    · exact HFK.out _ (fun k => (HF8.out k).kb KB9) (readS_of_tv ((OD.out.read.kb AD KB7.out).setOther (x := ⟨p, 3, none⟩) (fun a k cp e => (AD a k cp e).1) _)) AD k
  generalize w7.setCell ⟨p, 3, none⟩ (.int .i64 (s.changes + 1)) = W9 at *
  go_ret
  exact hEND

set_option maxHeartbeats 16000000 in
set_option maxRecDepth 100000 in
theorem PutN_ok1 (p m : Nat) (s : Ngs) (now : Int) (q : Qn) (v : Value) (x : St) (w : World) (hx : StAt w v x) (hf : StFine x) (hq : QnFine q) (h : NAt w p m s) (hin : StIn x) (h1 : ¬ Ag.till now (Ng.minN x) < 0) (h2 : Ng.minOk x = true) (h3 : Ng.goodQ q = true) (h4 : Ag.live now (Ag.till now (Ng.minN x)) = true) (hd6 : x.ds.length ≤ 1000000) (hch : s.changes ≤ 1099511627776) :
    Calls Try.prog 15 #[.pointer (some ⟨p, 0, none⟩), .int .i64 now, .agg #[.string q.n, .int .i64 q.t, .int .i64 q.c], .bool true, v] w fun e w' => PutNEnd w p m 0 ⟨s.room, Ng.cut (Ng.without s.items ⟨q.n, 0, q.c⟩ ++ [⟨⟨q.n, 0, q.c⟩, true, x, Ag.till now (Ng.minN x)⟩]) s.room, s.changes + 1⟩ e w' := by
  have hS := hide h
  have hin2 := hide hin
  obtain ⟨g1, g2, v0, n, f, g3, g4, g5, g6, g7, g8⟩ := h
  have hplt := g3.lt
  have hmlt := g6.lt
  have h := hS.out
  have hIT : NiFine ⟨⟨q.n, 0, q.c⟩, true, x, Ag.till now (Ng.minN x)⟩ := ⟨⟨hq.1, ⟨(by show (-9223372036854775808 : Int) ≤ 0; omega), (by show (0 : Int) ≤ 9223372036854775807; omega)⟩, hq.2.2⟩, hf, hin, hd6, (show -9223372036854775808 ≤ Ag.till now (Ng.minN x) ∧ Ag.till now (Ng.minN x) ≤ 9223372036854775807 by have := till_bound now (Ng.minN x); omega)⟩
  have HMIN := hide (fun W (kk : Keeps w W) => Minimum_any v x W (hx.keeps kk) hf)
  have HMD := hide (fun W (kk : Keeps w W) => isMadeN_any p m s W (h.keeps kk))
  have HAS := hide (fun W => isAskedN_any q W hq.1)
  have hmb := Ng.minN_in x
  have HU := hide (fun W => until_any now (Ng.minN x) W (by omega))
  clear hmb
  generalize hTL : Ag.till now (Ng.minN x) = TL at *
  generalize hMN : Ng.minN x = MN at *
  generalize hMO : Ng.minOk x = MO at *
  generalize hGQ : Ng.goodQ q = GQ at *
  replace hTL := hide hTL
  replace hMN := hide hMN
  replace hMO := hide hMO
  replace hGQ := hide hGQ
  have hxD := hide hx
  obtain ⟨vd, rfl, hds⟩ := hx
  have HDS := hide hds
  obtain ⟨va, vc, rfl⟩ := hds.len
  clear hds
  have B := hide ((Blk.made w #[.string q.n, .int .i64 q.t, .int .i64 q.c] 32).alloc (.cells #[.string x.key.n, .int .i64 x.key.t, .int .i64 x.key.c, .slice va x.ds.length vc, .int .i64 x.ttl] 35))
  have C := Blk.made (w.alloc (.cells #[.string q.n, .int .i64 q.t, .int .i64 q.c] 32)) #[.string x.key.n, .int .i64 x.key.t, .int .i64 x.key.c, .slice va x.ds.length vc, .int .i64 x.ttl] 35
  rw [size_allocG] at C
  replace C := hide C
  have K := hide (((Keeps.refl w).alloc (.cells #[.string q.n, .int .i64 q.t, .int .i64 q.c] 32)).alloc (.cells #[.string x.key.n, .int .i64 x.key.t, .int .i64 x.key.c, .slice va x.ds.length vc, .int .i64 x.ttl] 35))
  go_enter Try.func15, Try.ntmps15
  go_upto_region 1 with fail
  generalize (w.alloc (.cells #[.string q.n, .int .i64 q.t, .int .i64 q.c] 32)).alloc (.cells #[.string x.key.n, .int .i64 x.key.t, .int .i64 x.key.c, .slice va x.ds.length vc, .int .i64 x.ttl] 35) = W at *
  have hle : Hid (w.heap.size ≤ w.heap.size + 1 ∧ w.heap.size ≤ w.heap.size ∧ w.heap.size ≠ w.heap.size + 1) := by rw [Hid]; omega
  generalize w.heap.size + 1 = G at *
  generalize hF : w.heap.size = F at B hle ⊢
  replace hF := hide hF
  obtain ⟨c0, c1, c2, c3, c4⟩ := C.out.five_all.1
  go_wp2_with fail
  refine (HMIN.out _ K.out).mono ?_
  rintro e w1 ⟨rfl, k1⟩
  replace B := hide (B.out.keeps k1)
  replace C := hide (C.out.keeps k1)
  replace K := hide (K.out.trans k1)
  clear k1
  clear c0 c1 c2 c3 c4 HMIN
  go_wp2_with fail
  refine (HU.out _).mono ?_
  rintro e w2 ⟨rfl, rfl⟩
  clear HU
  go_wp2_with fail
  refine (HMD.out _ K.out).mono ?_
  rintro e w2 ⟨rfl, rfl⟩
  clear HMD
  have hpX : Hid (F ≠ p ∧ F ≠ m ∧ G ≠ p ∧ G ≠ m) := by have := hF.out; have := hle.out; rw [Hid]; omega
  clear hplt hmlt
  subst h2 h3
  generalize hL : Ag.live now TL = L at *
  replace hL := hide hL
  subst h4
  obtain ⟨b0, b1, b2⟩ := B.out.three.1
  go_wp2_with fail
  refine (HAS.out _).mono ?_
  rintro e w2 ⟨rfl, k1⟩
  replace B := hide (B.out.keeps k1)
  replace C := hide (C.out.keeps k1)
  replace K := hide (K.out.trans k1)
  clear k1
  clear b0 b1 b2 HAS
  go_wp2_with fail
  refine (ageLive_any now _ _).mono ?_
  rintro e w3 ⟨rfl, rfl⟩
  rw [hL.out]
  obtain ⟨⟨b0, b1, b2⟩, ⟨_, f1, _⟩, _⟩ := B.out.three
  go_upto_region 9 with fail
  replace B := hide (show Blk (w3.setCell ⟨F, 1, none⟩ (.int .i64 0)) F #[.string q.n, .int .i64 0, .int .i64 q.c] 32 by have := B.out.set 1 (.int .i64 0); simpa using this)
  replace C := hide (C.out.other (a := ⟨F, 1, none⟩) hle.out.2.2 (.int .i64 0))
  replace K := hide (K.out.setC ⟨F, 1, none⟩ (Nat.le_of_eq hF.out) (.int .i64 0))
  generalize w3.setCell ⟨F, 1, none⟩ (.int .i64 0) = w3 at *
  clear b0 b1 b2 f1
  have HOW := hide (fun W (kk : Keeps w W) => ownN_any (.slice va x.ds.length vc) (⟨⟨q.n, 0, q.c⟩, true, x, TL⟩ : Ni) W (HDS.out.keeps kk) hd6)
  have HKP := hide (fun vd' W (kk : Keeps w W) (hform : ∃ a c, vd' = .slice a x.ds.length c) => keepN_any p m s (⟨⟨q.n, 0, q.c⟩, true, x, TL⟩ : Ni) vd' W g1 g2 v0 n f (g3.keeps kk) (g4.keeps kk) g5 (g6.keeps kk) g7 hIT hform hch)
  unfold niV at HOW HKP
  simp only at HOW HKP
  have HF8 := hide g8
  have hpm := hide g1
  have hok := hide g2
  have hITh := hide hIT
  have hchh := hide hch
  clear g1 g2 g3 g4 g5 g6 g7 g8 hIT hf hin h hd6 hch
  obtain ⟨b0, b1, b2⟩ := B.out.three.1
  obtain ⟨c0, c1, c2, c3, c4⟩ := C.out.five_all.1
  go_wp2_with fail
  refine (HOW.out _ K.out).mono ?_
  intro e w6 hE
  obtain ⟨vd', rfl, od, k6⟩ := hE
  obtain ⟨da, dc, hdf⟩ := od.form
  rw [List.length_map] at hdf
  subst hdf
  have OD := hide od
  have hw36 : Hid (p < w3.heap.size ∧ m < w3.heap.size) := (hS.out.keeps K.out).lt
  have hp6 := hide (hS.out.keeps (K.out.trans k6)).lt
  replace K := hide (K.out.trans k6)
  clear od k6 b0 b1 b2 c0 c1 c2 c3 c4 B C HOW
  go_wp2_with fail
  refine (HKP.out _ _ K.out ⟨_, _, rfl⟩).mono ?_
  intro e w7 hE
  obtain ⟨rfl, kb7, vu, n', f', bu, ru, au, mu, hn', hfk⟩ := hE
  have KB7 := hide kb7
  have S7 := hide bu
  have R7 := hide ru
  have AV := hide au
  have M7 := hide mu
  have HFK := hide hfk
  have hnn := hide hn'
  clear kb7 bu ru au mu hfk hn' HKP
  have hw1 : IntKind.i64.wrap (s.changes + 1) = s.changes + 1 := by rw [IntKind.wrap_i64]; have := hok.out.count; have := hchh.out; omega
  obtain ⟨⟨_, _, _, p3⟩, ⟨_, _, _, pf3⟩, _⟩ := S7.out.four_cells
  go_wp2_with fail
  have S9 : Blk (w7.setCell ⟨p, 3, none⟩ (.int .i64 (s.changes + 1))) p #[.int .i64 s.room, .map (some m), vu, .int .i64 (s.changes + 1)] 71 := by have := S7.out.set 3 (.int .i64 (s.changes + 1)); simpa using this
  have KB9 : KB p m w (w7.setCell ⟨p, 3, none⟩ (.int .i64 (s.changes + 1))) := ((KB.of (p := p) (m := m) K.out).trans KB7.out).trans (KB.setP w7 3 _)
  have hAU : Apart vu p m := fun a k cp e => by
    have h1 := AV.out a k cp e
    have h2 := hp6.out.1
    have h3 := hp6.out.2
    exact ⟨by omega, by omega, by omega⟩
  have AD := OD.out.apart hw36.out.1 hw36.out.2
  have hEND : PutNEnd w p m 0 ⟨s.room, Ng.cut (Ng.without s.items ⟨q.n, 0, q.c⟩ ++ [(⟨⟨q.n, 0, q.c⟩, true, x, TL⟩ : Ni)]) s.room, s.changes + 1⟩ (.returned (.int .i64 0)) (w7.setCell ⟨p, 3, none⟩ (.int .i64 (s.changes + 1))) := by
    refine ⟨rfl, ⟨hpm.out, Ng.put_ok (x := (⟨⟨q.n, 0, q.c⟩, true, x, TL⟩ : Ni)) hok.out hITh.out, vu, n', f', S9, ?_, hAU, M7.out.same (Below.heap_setCell _ _ _ _ (fun e => hpm.out e.symm)), hnn.out, fun k => ?_⟩, KB9⟩
    · exact R7.out.setOther (x := ⟨p, 3, none⟩) (fun a k cp e => (hAU a k cp e).1) _
    · exact HFK.out _ (fun k => (HF8.out k).kb KB9) (readS_of_tv ((OD.out.read.kb AD KB7.out).setOther (x := ⟨p, 3, none⟩) (fun a k cp e => (AD a k cp e).1) _)) AD k
  generalize w7.setCell ⟨p, 3, none⟩ (.int .i64 (s.changes + 1)) = W9 at *
  go_ret
  exact hEND

/-- Put, whatever comes in. -/
theorem PutN_any (p m : Nat) (s : Ngs) (now : Int) (q : Qn) (nx : Bool) (v : Value) (x : St) (w : World) (hx : StAt w v x) (hf : StFine x) (hq : QnFine q) (h : NAt w p m s) (hin : StIn x) (hd6 : x.ds.length ≤ 1000000) (hch : s.changes ≤ 1099511627776) :
    Calls Try.prog 15 #[.pointer (some ⟨p, 0, none⟩), .int .i64 now, .agg #[.string q.n, .int .i64 q.t, .int .i64 q.c], .bool nx, v] w fun e w' => PutNEnd w p m (Ng.putE now q x) (Ng.put s now q nx x) e w' := by
  have bad : ∀ c, Ng.putE now q x = c → c ≠ 0 → ∀ e w', (e = .returned (.int .i64 c) ∧ Keeps w w') → PutNEnd w p m (Ng.putE now q x) (Ng.put s now q nx x) e w' := by
    rintro c hc h0 e w' ⟨rfl, k⟩
    have : Ng.put s now q nx x = s := by unfold Ng.put; rw [hc, if_neg h0]
    rw [this, hc]
    exact ⟨rfl, h.keeps k, KB.of k⟩
  have hmn := Ng.minN_in x
  by_cases h1 : Ag.till now (Ng.minN x) < 0
  · have hc : Ng.putE now q x = 1 := by
      have ht : Ag.isT now = false := by
        unfold Ag.till at h1
        split at h1
        · rename_i hh
          simp only [Bool.and_eq_true, Ag.isT, decide_eq_true_eq] at hh
          omega
        · rename_i hh
          rw [decide_eq_true hmn.1, Bool.and_true] at hh
          simpa using hh
      unfold Ng.putE
      rw [ht]; simp
    exact (PutN_arg1 p m s now q nx v x w hx hf hq h h1).mono (bad 1 hc (by decide))
  have ht : Ag.isT now = true := by
    unfold Ag.till at h1
    split at h1
    · rename_i hh
      simp only [Bool.and_eq_true] at hh
      exact hh.1
    · omega
  cases h2 : Ng.minOk x
  · have hc : Ng.putE now q x = 1 := by unfold Ng.putE; rw [h2]; simp
    exact (PutN_arg2 p m s now q nx v x w hx hf hq h h1 h2).mono (bad 1 hc (by decide))
  cases h3 : Ng.goodQ q
  · have hc : Ng.putE now q x = 1 := by unfold Ng.putE; rw [h3]; simp
    exact (PutN_arg3 p m s now q nx v x w hx hf hq h h1 h2 h3).mono (bad 1 hc (by decide))
  cases h4 : Ag.live now (Ag.till now (Ng.minN x))
  · have hc : Ng.putE now q x = 14 := by unfold Ng.putE; rw [ht, h2, h3, h4]; simp
    exact (PutN_time p m s now q nx v x w hx hf hq h h1 h2 h3 h4).mono (bad 14 hc (by decide))
  have hc : Ng.putE now q x = 0 := by unfold Ng.putE; rw [ht, h2, h3, h4]; simp
  have hp : Ng.put s now q nx x = ⟨s.room, Ng.cut (Ng.without s.items (Ng.kq q nx) ++ [Ng.itN now q nx x]) s.room, s.changes + 1⟩ := by unfold Ng.put; rw [if_pos hc]
  rw [hc, hp]
  cases nx
  · exact PutN_ok0 p m s now q v x w hx hf hq h hin h1 h2 h3 h4 hd6 hch
  · exact PutN_ok1 p m s now q v x w hx hf hq h hin h1 h2 h3 h4 hd6 hch
end Go.Proofs.Ytedcjkfiljjpiaa
