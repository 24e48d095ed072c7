/- A store into which something is put. No condition but lengths. A store into which something is put, that is kept. No condition but lengths. A store: Put, whatever comes in; and the law's words on items. No condition but lengths. -/
import Derived.Test.YtdlaepfnogmebaaStoK
import Derived.Test.YtdlaepfnogmebaaGrpR2
namespace Go.Proofs.Ytdlaepfnogmebaa
open Go.RowKit
variable {XG : Nat → Prop}

set_option maxHeartbeats 4000000 in
set_option maxRecDepth 100000 in
theorem isRank14_any (r : Int) (w : World) : Calls Try.prog 73 #[.int .i64 r] w fun e w' => e = .returned (.bool (Rk.isR r)) ∧ w' = w := by
  have HO := hide (over_any 0 r false w)
  rw [show Rk.over 0 false r = Rk.isR r by simp [Rk.over]] at HO
  go_enter Try.func73, Try.ntmps73
  go_wp2_with fail
  refine (HO.out).mono ?_
  rintro e w1 ⟨rfl, rfl⟩
  go_wp2
  go_ret
  exact ⟨rfl, rfl⟩


set_option maxHeartbeats 16000000 in
set_option maxRecDepth 100000 in
theorem Put_nil (now : Int) (v : Value) (x : St) (rank : Int) (w : World) (hx : StAt w v x) (hf : StFine x) (hin : StIn x) :
    Calls Try.prog 15 #[.pointer none, .int .i64 now, v, .int .i64 rank] w fun e w' => e = .returned (.int .i64 1) ∧ Keeps w w' := by
  have hmf : ∀ (fn : Fn) (first cap : Array Value) (w : World), (Instr.makeFunc fn first cap).run Try.prog w = .ok (.func fn first cap) w := fun _ _ _ _ => rfl
  have HGC := hide (fun W (kk : Keeps w W) => GCheck_any v x W (hx.keeps kk) hf)
  obtain ⟨vd, rfl, hds⟩ := hx
  obtain ⟨va, vc, rfl⟩ := hds.len
  have A := hide (((Blk.made w #[.pointer none] 25).alloc (.cells #[.string x.key.n, .int .i64 x.key.t, .int .i64 x.key.c, .slice va x.ds.length vc, .int .i64 x.ttl] 35)).alloc (.cells #[.int .i64 0] 38))
  have B := (Blk.made (w.alloc (.cells #[.pointer none] 25)) #[.string x.key.n, .int .i64 x.key.t, .int .i64 x.key.c, .slice va x.ds.length vc, .int .i64 x.ttl] 35).alloc (.cells #[.int .i64 0] 38)
  have C := Blk.made ((w.alloc (.cells #[.pointer none] 25)).alloc (.cells #[.string x.key.n, .int .i64 x.key.t, .int .i64 x.key.c, .slice va x.ds.length vc, .int .i64 x.ttl] 35)) #[.int .i64 0] 38
  rw [size_allocG] at B
  rw [size_allocG, size_allocG] at C
  replace B := hide B
  replace C := hide C
  have K := hide ((((Keeps.refl w).alloc (.cells #[.pointer none] 25)).alloc (.cells #[.string x.key.n, .int .i64 x.key.t, .int .i64 x.key.c, .slice va x.ds.length vc, .int .i64 x.ttl] 35)).alloc (.cells #[.int .i64 0] 38))
  go_enter_defers Try.func15, Try.ntmps15
  go_upto_region 2 with fail
  generalize ((w.alloc (.cells #[.pointer none] 25)).alloc (.cells #[.string x.key.n, .int .i64 x.key.t, .int .i64 x.key.c, .slice va x.ds.length vc, .int .i64 x.ttl] 35)).alloc (.cells #[.int .i64 0] 38) = W at *
  have hle : Hid (w.heap.size ≤ w.heap.size + 1 + 1) := by rw [Hid]; omega
  have hAC : Hid (w.heap.size + 1 + 1 ≠ w.heap.size ∧ w.heap.size + 1 + 1 ≠ w.heap.size + 1) := by rw [Hid]; omega
  generalize w.heap.size + 1 + 1 = CB at *
  generalize w.heap.size + 1 = BB at *
  generalize hF : w.heap.size = F at A hAC ⊢
  replace hF := hide hF
  have a0 : W.cell? ⟨F, 0, none⟩ = some (.pointer none) := A.out.cell 0
  obtain ⟨b0, b1, b2, b3, b4, _⟩ := B.out.five_cells
  have c0 : W.cell? ⟨CB, 0, none⟩ = some (.int .i64 0) := C.out.cell 0
  have cf : W.frozen? ⟨CB, 0, none⟩ = false := C.out.frozen 0
  go_wp2_with fail
  refine (until_any now x.ttl _ hin.2).mono ?_
  rintro e w1 ⟨rfl, rfl⟩
  go_wp2_with fail
  refine (isMade_nil _).mono ?_
  rintro e w1 ⟨rfl, rfl⟩
  go_wp2_with fail
  have A2 : (w1.setCell ⟨CB, 0, none⟩ (.int .i64 1)).cell? ⟨F, 0, none⟩ = some (.pointer none) := (A.out.other (a := ⟨CB, 0, none⟩) hAC.out.1 (.int .i64 1)).cell 0
  have C2 : (w1.setCell ⟨CB, 0, none⟩ (.int .i64 1)).cell? ⟨CB, 0, none⟩ = some (.int .i64 1) := by have := (C.out.set 0 (.int .i64 1)).cell 0; simpa using this
  have K2 := K.out.setC ⟨CB, 0, none⟩ hle.out (.int .i64 1)
  generalize w1.setCell ⟨CB, 0, none⟩ (.int .i64 1) = W2 at *
  refine leaves_cons (f := 68) (args := #[.pointer (some ⟨F, 0, none⟩), .pointer (some ⟨CB, 0, none⟩)]) (by simp) (by simp [go_sem]) ?_
  refine (putDefer_no F CB 1 (by decide) (.pointer none) rfl _ W2 A2 C2).mono ?_
  rintro e u' w'' ⟨rfl, rfl, rfl⟩
  have hEND : Ending.returned (.int .i64 1) = .returned (.int .i64 1) ∧ Keeps w w'' := ⟨rfl, K2⟩
  simpa [Leaves, settle, results, Try.results15, go_sem, C2] using hEND

set_option maxHeartbeats 16000000 in
set_option maxRecDepth 100000 in
theorem Put_arg1 (p m : Nat) (s : Sto) (now : Int) (v : Value) (x : St) (rank : Int) (w : World) (hx : StAt w v x) (hf : StFine x) (hin : StIn x) (h : SAt XG w p m s) (h1 : Ag.till now x.ttl < 0) :
    Calls Try.prog 15 #[.pointer (some ⟨p, 0, none⟩), .int .i64 now, v, .int .i64 rank] w fun e w' => e = .returned (.int .i64 1) ∧ Keeps w w' := by
  have hmf : ∀ (fn : Fn) (first cap : Array Value) (w : World), (Instr.makeFunc fn first cap).run Try.prog w = .ok (.func fn first cap) w := fun _ _ _ _ => rfl
  have HGC := hide (fun W (kk : Keeps w W) => GCheck_any v x W (hx.keeps kk) hf)
  have hS := hide h
  have HMD := hide (fun W (kk : Keeps w W) => isMade_any p m s W (h.keeps kk))
  obtain ⟨vd, rfl, hds⟩ := hx
  obtain ⟨va, vc, rfl⟩ := hds.len
  have A := hide (((Blk.made w #[.pointer (some ⟨p, 0, none⟩)] 25).alloc (.cells #[.string x.key.n, .int .i64 x.key.t, .int .i64 x.key.c, .slice va x.ds.length vc, .int .i64 x.ttl] 35)).alloc (.cells #[.int .i64 0] 38))
  have B := (Blk.made (w.alloc (.cells #[.pointer (some ⟨p, 0, none⟩)] 25)) #[.string x.key.n, .int .i64 x.key.t, .int .i64 x.key.c, .slice va x.ds.length vc, .int .i64 x.ttl] 35).alloc (.cells #[.int .i64 0] 38)
  have C := Blk.made ((w.alloc (.cells #[.pointer (some ⟨p, 0, none⟩)] 25)).alloc (.cells #[.string x.key.n, .int .i64 x.key.t, .int .i64 x.key.c, .slice va x.ds.length vc, .int .i64 x.ttl] 35)) #[.int .i64 0] 38
  rw [size_allocG] at B
  rw [size_allocG, size_allocG] at C
  replace B := hide B
  replace C := hide C
  have K := hide ((((Keeps.refl w).alloc (.cells #[.pointer (some ⟨p, 0, none⟩)] 25)).alloc (.cells #[.string x.key.n, .int .i64 x.key.t, .int .i64 x.key.c, .slice va x.ds.length vc, .int .i64 x.ttl] 35)).alloc (.cells #[.int .i64 0] 38))
  go_enter_defers Try.func15, Try.ntmps15
  go_upto_region 2 with fail
  generalize ((w.alloc (.cells #[.pointer (some ⟨p, 0, none⟩)] 25)).alloc (.cells #[.string x.key.n, .int .i64 x.key.t, .int .i64 x.key.c, .slice va x.ds.length vc, .int .i64 x.ttl] 35)).alloc (.cells #[.int .i64 0] 38) = W at *
  have hle : Hid (w.heap.size ≤ w.heap.size + 1 + 1) := by rw [Hid]; omega
  have hAC : Hid (w.heap.size + 1 + 1 ≠ w.heap.size ∧ w.heap.size + 1 + 1 ≠ w.heap.size + 1) := by rw [Hid]; omega
  generalize w.heap.size + 1 + 1 = CB at *
  generalize w.heap.size + 1 = BB at *
  generalize hF : w.heap.size = F at A hAC ⊢
  replace hF := hide hF
  have a0 : W.cell? ⟨F, 0, none⟩ = some (.pointer (some ⟨p, 0, none⟩)) := A.out.cell 0
  obtain ⟨b0, b1, b2, b3, b4, _⟩ := B.out.five_cells
  have c0 : W.cell? ⟨CB, 0, none⟩ = some (.int .i64 0) := C.out.cell 0
  have cf : W.frozen? ⟨CB, 0, none⟩ = false := C.out.frozen 0
  go_wp2_with fail
  refine (until_any now x.ttl _ hin.2).mono ?_
  rintro e w1 ⟨rfl, rfl⟩
  go_wp2_with fail
  refine (HMD.out _ K.out).mono ?_
  rintro e w1 ⟨rfl, rfl⟩
  go_wp2_with fail
  have A2 : (w1.setCell ⟨CB, 0, none⟩ (.int .i64 1)).cell? ⟨F, 0, none⟩ = some (.pointer (some ⟨p, 0, none⟩)) := (A.out.other (a := ⟨CB, 0, none⟩) hAC.out.1 (.int .i64 1)).cell 0
  have C2 : (w1.setCell ⟨CB, 0, none⟩ (.int .i64 1)).cell? ⟨CB, 0, none⟩ = some (.int .i64 1) := by have := (C.out.set 0 (.int .i64 1)).cell 0; simpa using this
  have K2 := K.out.setC ⟨CB, 0, none⟩ hle.out (.int .i64 1)
  generalize w1.setCell ⟨CB, 0, none⟩ (.int .i64 1) = W2 at *
  refine leaves_cons (f := 68) (args := #[.pointer (some ⟨F, 0, none⟩), .pointer (some ⟨CB, 0, none⟩)]) (by simp) (by simp [go_sem]) ?_
  refine (putDefer_no F CB 1 (by decide) (.pointer (some ⟨p, 0, none⟩)) rfl _ W2 A2 C2).mono ?_
  rintro e u' w'' ⟨rfl, rfl, rfl⟩
  have hEND : Ending.returned (.int .i64 1) = .returned (.int .i64 1) ∧ Keeps w w'' := ⟨rfl, K2⟩
  simpa [Leaves, settle, results, Try.results15, go_sem, C2] using hEND

set_option maxHeartbeats 16000000 in
set_option maxRecDepth 100000 in
theorem Put_arg2 (p m : Nat) (s : Sto) (now : Int) (v : Value) (x : St) (rank : Int) (w : World) (hx : StAt w v x) (hf : StFine x) (hin : StIn x) (h : SAt XG w p m s) (h1 : ¬ Ag.till now x.ttl < 0) (h2 : stOk x = false) :
    Calls Try.prog 15 #[.pointer (some ⟨p, 0, none⟩), .int .i64 now, v, .int .i64 rank] w fun e w' => e = .returned (.int .i64 1) ∧ Keeps w w' := by
  have hmf : ∀ (fn : Fn) (first cap : Array Value) (w : World), (Instr.makeFunc fn first cap).run Try.prog w = .ok (.func fn first cap) w := fun _ _ _ _ => rfl
  have HGC := hide (fun W (kk : Keeps w W) => GCheck_any v x W (hx.keeps kk) hf)
  have hS := hide h
  have HMD := hide (fun W (kk : Keeps w W) => isMade_any p m s W (h.keeps kk))
  obtain ⟨vd, rfl, hds⟩ := hx
  obtain ⟨va, vc, rfl⟩ := hds.len
  have A := hide (((Blk.made w #[.pointer (some ⟨p, 0, none⟩)] 25).alloc (.cells #[.string x.key.n, .int .i64 x.key.t, .int .i64 x.key.c, .slice va x.ds.length vc, .int .i64 x.ttl] 35)).alloc (.cells #[.int .i64 0] 38))
  have B := (Blk.made (w.alloc (.cells #[.pointer (some ⟨p, 0, none⟩)] 25)) #[.string x.key.n, .int .i64 x.key.t, .int .i64 x.key.c, .slice va x.ds.length vc, .int .i64 x.ttl] 35).alloc (.cells #[.int .i64 0] 38)
  have C := Blk.made ((w.alloc (.cells #[.pointer (some ⟨p, 0, none⟩)] 25)).alloc (.cells #[.string x.key.n, .int .i64 x.key.t, .int .i64 x.key.c, .slice va x.ds.length vc, .int .i64 x.ttl] 35)) #[.int .i64 0] 38
  rw [size_allocG] at B
  rw [size_allocG, size_allocG] at C
  replace B := hide B
  replace C := hide C
  have K := hide ((((Keeps.refl w).alloc (.cells #[.pointer (some ⟨p, 0, none⟩)] 25)).alloc (.cells #[.string x.key.n, .int .i64 x.key.t, .int .i64 x.key.c, .slice va x.ds.length vc, .int .i64 x.ttl] 35)).alloc (.cells #[.int .i64 0] 38))
  go_enter_defers Try.func15, Try.ntmps15
  go_upto_region 2 with fail
  generalize ((w.alloc (.cells #[.pointer (some ⟨p, 0, none⟩)] 25)).alloc (.cells #[.string x.key.n, .int .i64 x.key.t, .int .i64 x.key.c, .slice va x.ds.length vc, .int .i64 x.ttl] 35)).alloc (.cells #[.int .i64 0] 38) = W at *
  have hle : Hid (w.heap.size ≤ w.heap.size + 1 + 1) := by rw [Hid]; omega
  have hAC : Hid (w.heap.size + 1 + 1 ≠ w.heap.size ∧ w.heap.size + 1 + 1 ≠ w.heap.size + 1) := by rw [Hid]; omega
  generalize w.heap.size + 1 + 1 = CB at *
  generalize w.heap.size + 1 = BB at *
  generalize hF : w.heap.size = F at A hAC ⊢
  replace hF := hide hF
  have a0 : W.cell? ⟨F, 0, none⟩ = some (.pointer (some ⟨p, 0, none⟩)) := A.out.cell 0
  obtain ⟨b0, b1, b2, b3, b4, _⟩ := B.out.five_cells
  have c0 : W.cell? ⟨CB, 0, none⟩ = some (.int .i64 0) := C.out.cell 0
  have cf : W.frozen? ⟨CB, 0, none⟩ = false := C.out.frozen 0
  go_wp2_with fail
  refine (until_any now x.ttl _ hin.2).mono ?_
  rintro e w1 ⟨rfl, rfl⟩
  go_wp2_with fail
  refine (HMD.out _ K.out).mono ?_
  rintro e w1 ⟨rfl, rfl⟩
  go_wp2_with fail
  refine (HGC.out _ K.out).mono ?_
  rintro e w2 ⟨rfl, k1⟩
  replace A := hide (A.out.keeps k1)
  replace B := hide (B.out.keeps k1)
  replace C := hide (C.out.keeps k1)
  replace K := hide (K.out.trans k1)
  clear k1 a0 b0 b1 b2 b3 b4 c0 cf
  have a0 : w2.cell? ⟨F, 0, none⟩ = some (.pointer (some ⟨p, 0, none⟩)) := A.out.cell 0
  obtain ⟨b0, b1, b2, b3, b4, _⟩ := B.out.five_cells
  have c0 : w2.cell? ⟨CB, 0, none⟩ = some (.int .i64 0) := C.out.cell 0
  have cf : w2.frozen? ⟨CB, 0, none⟩ = false := C.out.frozen 0
  rw [h2]
  go_wp2_with fail
  have A2 : (w2.setCell ⟨CB, 0, none⟩ (.int .i64 1)).cell? ⟨F, 0, none⟩ = some (.pointer (some ⟨p, 0, none⟩)) := (A.out.other (a := ⟨CB, 0, none⟩) hAC.out.1 (.int .i64 1)).cell 0
  have C2 : (w2.setCell ⟨CB, 0, none⟩ (.int .i64 1)).cell? ⟨CB, 0, none⟩ = some (.int .i64 1) := by have := (C.out.set 0 (.int .i64 1)).cell 0; simpa using this
  have K2 := K.out.setC ⟨CB, 0, none⟩ hle.out (.int .i64 1)
  generalize w2.setCell ⟨CB, 0, none⟩ (.int .i64 1) = W2 at *
  refine leaves_cons (f := 68) (args := #[.pointer (some ⟨F, 0, none⟩), .pointer (some ⟨CB, 0, none⟩)]) (by simp) (by simp [go_sem]) ?_
  refine (putDefer_no F CB 1 (by decide) (.pointer (some ⟨p, 0, none⟩)) rfl _ W2 A2 C2).mono ?_
  rintro e u' w'' ⟨rfl, rfl, rfl⟩
  have hEND : Ending.returned (.int .i64 1) = .returned (.int .i64 1) ∧ Keeps w w'' := ⟨rfl, K2⟩
  simpa [Leaves, settle, results, Try.results15, go_sem, C2] using hEND

set_option maxHeartbeats 16000000 in
set_option maxRecDepth 100000 in
theorem Put_arg3 (p m : Nat) (s : Sto) (now : Int) (v : Value) (x : St) (rank : Int) (w : World) (hx : StAt w v x) (hf : StFine x) (hin : StIn x) (h : SAt XG w p m s) (h1 : ¬ Ag.till now x.ttl < 0) (h2 : stOk x = true) (h3 : Rk.isR rank = false) :
    Calls Try.prog 15 #[.pointer (some ⟨p, 0, none⟩), .int .i64 now, v, .int .i64 rank] w fun e w' => e = .returned (.int .i64 1) ∧ Keeps w w' := by
  have hmf : ∀ (fn : Fn) (first cap : Array Value) (w : World), (Instr.makeFunc fn first cap).run Try.prog w = .ok (.func fn first cap) w := fun _ _ _ _ => rfl
  have HGC := hide (fun W (kk : Keeps w W) => GCheck_any v x W (hx.keeps kk) hf)
  have hS := hide h
  have HMD := hide (fun W (kk : Keeps w W) => isMade_any p m s W (h.keeps kk))
  obtain ⟨vd, rfl, hds⟩ := hx
  obtain ⟨va, vc, rfl⟩ := hds.len
  have A := hide (((Blk.made w #[.pointer (some ⟨p, 0, none⟩)] 25).alloc (.cells #[.string x.key.n, .int .i64 x.key.t, .int .i64 x.key.c, .slice va x.ds.length vc, .int .i64 x.ttl] 35)).alloc (.cells #[.int .i64 0] 38))
  have B := (Blk.made (w.alloc (.cells #[.pointer (some ⟨p, 0, none⟩)] 25)) #[.string x.key.n, .int .i64 x.key.t, .int .i64 x.key.c, .slice va x.ds.length vc, .int .i64 x.ttl] 35).alloc (.cells #[.int .i64 0] 38)
  have C := Blk.made ((w.alloc (.cells #[.pointer (some ⟨p, 0, none⟩)] 25)).alloc (.cells #[.string x.key.n, .int .i64 x.key.t, .int .i64 x.key.c, .slice va x.ds.length vc, .int .i64 x.ttl] 35)) #[.int .i64 0] 38
  rw [size_allocG] at B
  rw [size_allocG, size_allocG] at C
  replace B := hide B
  replace C := hide C
  have K := hide ((((Keeps.refl w).alloc (.cells #[.pointer (some ⟨p, 0, none⟩)] 25)).alloc (.cells #[.string x.key.n, .int .i64 x.key.t, .int .i64 x.key.c, .slice va x.ds.length vc, .int .i64 x.ttl] 35)).alloc (.cells #[.int .i64 0] 38))
  go_enter_defers Try.func15, Try.ntmps15
  go_upto_region 2 with fail
  generalize ((w.alloc (.cells #[.pointer (some ⟨p, 0, none⟩)] 25)).alloc (.cells #[.string x.key.n, .int .i64 x.key.t, .int .i64 x.key.c, .slice va x.ds.length vc, .int .i64 x.ttl] 35)).alloc (.cells #[.int .i64 0] 38) = W at *
  have hle : Hid (w.heap.size ≤ w.heap.size + 1 + 1) := by rw [Hid]; omega
  have hAC : Hid (w.heap.size + 1 + 1 ≠ w.heap.size ∧ w.heap.size + 1 + 1 ≠ w.heap.size + 1) := by rw [Hid]; omega
  generalize w.heap.size + 1 + 1 = CB at *
  generalize w.heap.size + 1 = BB at *
  generalize hF : w.heap.size = F at A hAC ⊢
  replace hF := hide hF
  have a0 : W.cell? ⟨F, 0, none⟩ = some (.pointer (some ⟨p, 0, none⟩)) := A.out.cell 0
  obtain ⟨b0, b1, b2, b3, b4, _⟩ := B.out.five_cells
  have c0 : W.cell? ⟨CB, 0, none⟩ = some (.int .i64 0) := C.out.cell 0
  have cf : W.frozen? ⟨CB, 0, none⟩ = false := C.out.frozen 0
  go_wp2_with fail
  refine (until_any now x.ttl _ hin.2).mono ?_
  rintro e w1 ⟨rfl, rfl⟩
  go_wp2_with fail
  refine (HMD.out _ K.out).mono ?_
  rintro e w1 ⟨rfl, rfl⟩
  go_wp2_with fail
  refine (HGC.out _ K.out).mono ?_
  rintro e w2 ⟨rfl, k1⟩
  replace A := hide (A.out.keeps k1)
  replace B := hide (B.out.keeps k1)
  replace C := hide (C.out.keeps k1)
  replace K := hide (K.out.trans k1)
  clear k1 a0 b0 b1 b2 b3 b4 c0 cf
  have a0 : w2.cell? ⟨F, 0, none⟩ = some (.pointer (some ⟨p, 0, none⟩)) := A.out.cell 0
  obtain ⟨b0, b1, b2, b3, b4, _⟩ := B.out.five_cells
  have c0 : w2.cell? ⟨CB, 0, none⟩ = some (.int .i64 0) := C.out.cell 0
  have cf : w2.frozen? ⟨CB, 0, none⟩ = false := C.out.frozen 0
  rw [h2]
  go_wp2_with fail
  refine (isRank14_any rank _).mono ?_
  rintro e w3 ⟨rfl, rfl⟩
  rw [h3]
  go_wp2_with fail
  have A2 : (w3.setCell ⟨CB, 0, none⟩ (.int .i64 1)).cell? ⟨F, 0, none⟩ = some (.pointer (some ⟨p, 0, none⟩)) := (A.out.other (a := ⟨CB, 0, none⟩) hAC.out.1 (.int .i64 1)).cell 0
  have C2 : (w3.setCell ⟨CB, 0, none⟩ (.int .i64 1)).cell? ⟨CB, 0, none⟩ = some (.int .i64 1) := by have := (C.out.set 0 (.int .i64 1)).cell 0; simpa using this
  have K2 := K.out.setC ⟨CB, 0, none⟩ hle.out (.int .i64 1)
  generalize w3.setCell ⟨CB, 0, none⟩ (.int .i64 1) = W2 at *
  refine leaves_cons (f := 68) (args := #[.pointer (some ⟨F, 0, none⟩), .pointer (some ⟨CB, 0, none⟩)]) (by simp) (by simp [go_sem]) ?_
  refine (putDefer_no F CB 1 (by decide) (.pointer (some ⟨p, 0, none⟩)) rfl _ W2 A2 C2).mono ?_
  rintro e u' w'' ⟨rfl, rfl, rfl⟩
  have hEND : Ending.returned (.int .i64 1) = .returned (.int .i64 1) ∧ Keeps w w'' := ⟨rfl, K2⟩
  simpa [Leaves, settle, results, Try.results15, go_sem, C2] using hEND

set_option maxHeartbeats 16000000 in
set_option maxRecDepth 100000 in
theorem Put_time (p m : Nat) (s : Sto) (now : Int) (v : Value) (x : St) (rank : Int) (w : World) (hx : StAt w v x) (hf : StFine x) (hin : StIn x) (h : SAt XG w p m s) (h1 : ¬ Ag.till now x.ttl < 0) (h2 : stOk x = true) (h3 : Rk.isR rank = true) (h4 : Ag.live now (Ag.till now x.ttl) = false) :
    Calls Try.prog 15 #[.pointer (some ⟨p, 0, none⟩), .int .i64 now, v, .int .i64 rank] w fun e w' => e = .returned (.int .i64 14) ∧ Keeps w w' := by
  have hmf : ∀ (fn : Fn) (first cap : Array Value) (w : World), (Instr.makeFunc fn first cap).run Try.prog w = .ok (.func fn first cap) w := fun _ _ _ _ => rfl
  have HGC := hide (fun W (kk : Keeps w W) => GCheck_any v x W (hx.keeps kk) hf)
  have hS := hide h
  have HMD := hide (fun W (kk : Keeps w W) => isMade_any p m s W (h.keeps kk))
  obtain ⟨vd, rfl, hds⟩ := hx
  obtain ⟨va, vc, rfl⟩ := hds.len
  have A := hide (((Blk.made w #[.pointer (some ⟨p, 0, none⟩)] 25).alloc (.cells #[.string x.key.n, .int .i64 x.key.t, .int .i64 x.key.c, .slice va x.ds.length vc, .int .i64 x.ttl] 35)).alloc (.cells #[.int .i64 0] 38))
  have B := (Blk.made (w.alloc (.cells #[.pointer (some ⟨p, 0, none⟩)] 25)) #[.string x.key.n, .int .i64 x.key.t, .int .i64 x.key.c, .slice va x.ds.length vc, .int .i64 x.ttl] 35).alloc (.cells #[.int .i64 0] 38)
  have C := Blk.made ((w.alloc (.cells #[.pointer (some ⟨p, 0, none⟩)] 25)).alloc (.cells #[.string x.key.n, .int .i64 x.key.t, .int .i64 x.key.c, .slice va x.ds.length vc, .int .i64 x.ttl] 35)) #[.int .i64 0] 38
  rw [size_allocG] at B
  rw [size_allocG, size_allocG] at C
  replace B := hide B
  replace C := hide C
  have K := hide ((((Keeps.refl w).alloc (.cells #[.pointer (some ⟨p, 0, none⟩)] 25)).alloc (.cells #[.string x.key.n, .int .i64 x.key.t, .int .i64 x.key.c, .slice va x.ds.length vc, .int .i64 x.ttl] 35)).alloc (.cells #[.int .i64 0] 38))
  go_enter_defers Try.func15, Try.ntmps15
  go_upto_region 2 with fail
  generalize ((w.alloc (.cells #[.pointer (some ⟨p, 0, none⟩)] 25)).alloc (.cells #[.string x.key.n, .int .i64 x.key.t, .int .i64 x.key.c, .slice va x.ds.length vc, .int .i64 x.ttl] 35)).alloc (.cells #[.int .i64 0] 38) = W at *
  have hle : Hid (w.heap.size ≤ w.heap.size + 1 + 1) := by rw [Hid]; omega
  have hAC : Hid (w.heap.size + 1 + 1 ≠ w.heap.size ∧ w.heap.size + 1 + 1 ≠ w.heap.size + 1) := by rw [Hid]; omega
  generalize w.heap.size + 1 + 1 = CB at *
  generalize w.heap.size + 1 = BB at *
  generalize hF : w.heap.size = F at A hAC ⊢
  replace hF := hide hF
  have a0 : W.cell? ⟨F, 0, none⟩ = some (.pointer (some ⟨p, 0, none⟩)) := A.out.cell 0
  obtain ⟨b0, b1, b2, b3, b4, _⟩ := B.out.five_cells
  have c0 : W.cell? ⟨CB, 0, none⟩ = some (.int .i64 0) := C.out.cell 0
  have cf : W.frozen? ⟨CB, 0, none⟩ = false := C.out.frozen 0
  go_wp2_with fail
  refine (until_any now x.ttl _ hin.2).mono ?_
  rintro e w1 ⟨rfl, rfl⟩
  go_wp2_with fail
  refine (HMD.out _ K.out).mono ?_
  rintro e w1 ⟨rfl, rfl⟩
  go_wp2_with fail
  refine (HGC.out _ K.out).mono ?_
  rintro e w2 ⟨rfl, k1⟩
  replace A := hide (A.out.keeps k1)
  replace B := hide (B.out.keeps k1)
  replace C := hide (C.out.keeps k1)
  replace K := hide (K.out.trans k1)
  clear k1 a0 b0 b1 b2 b3 b4 c0 cf
  have a0 : w2.cell? ⟨F, 0, none⟩ = some (.pointer (some ⟨p, 0, none⟩)) := A.out.cell 0
  obtain ⟨b0, b1, b2, b3, b4, _⟩ := B.out.five_cells
  have c0 : w2.cell? ⟨CB, 0, none⟩ = some (.int .i64 0) := C.out.cell 0
  have cf : w2.frozen? ⟨CB, 0, none⟩ = false := C.out.frozen 0
  rw [h2]
  go_wp2_with fail
  refine (isRank14_any rank _).mono ?_
  rintro e w3 ⟨rfl, rfl⟩
  rw [h3]
  go_wp2_with fail
  refine (ageLive_any now _ _).mono ?_
  rintro e w4 ⟨rfl, rfl⟩
  rw [h4]
  go_wp2_with fail
  have A2 : (w4.setCell ⟨CB, 0, none⟩ (.int .i64 14)).cell? ⟨F, 0, none⟩ = some (.pointer (some ⟨p, 0, none⟩)) := (A.out.other (a := ⟨CB, 0, none⟩) hAC.out.1 (.int .i64 14)).cell 0
  have C2 : (w4.setCell ⟨CB, 0, none⟩ (.int .i64 14)).cell? ⟨CB, 0, none⟩ = some (.int .i64 14) := by have := (C.out.set 0 (.int .i64 14)).cell 0; simpa using this
  have K2 := K.out.setC ⟨CB, 0, none⟩ hle.out (.int .i64 14)
  generalize w4.setCell ⟨CB, 0, none⟩ (.int .i64 14) = W2 at *
  refine leaves_cons (f := 68) (args := #[.pointer (some ⟨F, 0, none⟩), .pointer (some ⟨CB, 0, none⟩)]) (by simp) (by simp [go_sem]) ?_
  refine (putDefer_no F CB 14 (by decide) (.pointer (some ⟨p, 0, none⟩)) rfl _ W2 A2 C2).mono ?_
  rintro e u' w'' ⟨rfl, rfl, rfl⟩
  have hEND : Ending.returned (.int .i64 14) = .returned (.int .i64 14) ∧ Keeps w w'' := ⟨rfl, K2⟩
  simpa [Leaves, settle, results, Try.results15, go_sem, C2] using hEND

set_option maxHeartbeats 16000000 in
set_option maxRecDepth 100000 in
theorem Put_rank (p m : Nat) (s : Sto) (now : Int) (v : Value) (x : St) (rank : Int) (w : World) (hx : StAt w v x) (hf : StFine x) (hin : StIn x) (h : SAt XG w p m s) (h1 : ¬ Ag.till now x.ttl < 0) (h2 : stOk x = true) (h3 : Rk.isR rank = true) (h4 : Ag.live now (Ag.till now x.ttl) = true) (h5 : Sto.yields s now x.key rank = false) :
    Calls Try.prog 15 #[.pointer (some ⟨p, 0, none⟩), .int .i64 now, v, .int .i64 rank] w fun e w' => e = .returned (.int .i64 10) ∧ Keeps w w' := by
  have hmf : ∀ (fn : Fn) (first cap : Array Value) (w : World), (Instr.makeFunc fn first cap).run Try.prog w = .ok (.func fn first cap) w := fun _ _ _ _ => rfl
  have HGC := hide (fun W (kk : Keeps w W) => GCheck_any v x W (hx.keeps kk) hf)
  have hS := hide h
  have HMD := hide (fun W (kk : Keeps w W) => isMade_any p m s W (h.keeps kk))
  have HYD := hide (fun W (kk : Keeps w W) => yields_any p m s now x.key rank W (h.keeps kk) hin.1)
  obtain ⟨vd, rfl, hds⟩ := hx
  obtain ⟨va, vc, rfl⟩ := hds.len
  have A := hide (((Blk.made w #[.pointer (some ⟨p, 0, none⟩)] 25).alloc (.cells #[.string x.key.n, .int .i64 x.key.t, .int .i64 x.key.c, .slice va x.ds.length vc, .int .i64 x.ttl] 35)).alloc (.cells #[.int .i64 0] 38))
  have B := (Blk.made (w.alloc (.cells #[.pointer (some ⟨p, 0, none⟩)] 25)) #[.string x.key.n, .int .i64 x.key.t, .int .i64 x.key.c, .slice va x.ds.length vc, .int .i64 x.ttl] 35).alloc (.cells #[.int .i64 0] 38)
  have C := Blk.made ((w.alloc (.cells #[.pointer (some ⟨p, 0, none⟩)] 25)).alloc (.cells #[.string x.key.n, .int .i64 x.key.t, .int .i64 x.key.c, .slice va x.ds.length vc, .int .i64 x.ttl] 35)) #[.int .i64 0] 38
  rw [size_allocG] at B
  rw [size_allocG, size_allocG] at C
  replace B := hide B
  replace C := hide C
  have K := hide ((((Keeps.refl w).alloc (.cells #[.pointer (some ⟨p, 0, none⟩)] 25)).alloc (.cells #[.string x.key.n, .int .i64 x.key.t, .int .i64 x.key.c, .slice va x.ds.length vc, .int .i64 x.ttl] 35)).alloc (.cells #[.int .i64 0] 38))
  go_enter_defers Try.func15, Try.ntmps15
  go_upto_region 2 with fail
  generalize ((w.alloc (.cells #[.pointer (some ⟨p, 0, none⟩)] 25)).alloc (.cells #[.string x.key.n, .int .i64 x.key.t, .int .i64 x.key.c, .slice va x.ds.length vc, .int .i64 x.ttl] 35)).alloc (.cells #[.int .i64 0] 38) = W at *
  have hle : Hid (w.heap.size ≤ w.heap.size + 1 + 1) := by rw [Hid]; omega
  have hAC : Hid (w.heap.size + 1 + 1 ≠ w.heap.size ∧ w.heap.size + 1 + 1 ≠ w.heap.size + 1) := by rw [Hid]; omega
  generalize w.heap.size + 1 + 1 = CB at *
  generalize w.heap.size + 1 = BB at *
  generalize hF : w.heap.size = F at A hAC ⊢
  replace hF := hide hF
  have a0 : W.cell? ⟨F, 0, none⟩ = some (.pointer (some ⟨p, 0, none⟩)) := A.out.cell 0
  obtain ⟨b0, b1, b2, b3, b4, _⟩ := B.out.five_cells
  have c0 : W.cell? ⟨CB, 0, none⟩ = some (.int .i64 0) := C.out.cell 0
  have cf : W.frozen? ⟨CB, 0, none⟩ = false := C.out.frozen 0
  go_wp2_with fail
  refine (until_any now x.ttl _ hin.2).mono ?_
  rintro e w1 ⟨rfl, rfl⟩
  go_wp2_with fail
  refine (HMD.out _ K.out).mono ?_
  rintro e w1 ⟨rfl, rfl⟩
  go_wp2_with fail
  refine (HGC.out _ K.out).mono ?_
  rintro e w2 ⟨rfl, k1⟩
  replace A := hide (A.out.keeps k1)
  replace B := hide (B.out.keeps k1)
  replace C := hide (C.out.keeps k1)
  replace K := hide (K.out.trans k1)
  clear k1 a0 b0 b1 b2 b3 b4 c0 cf
  have a0 : w2.cell? ⟨F, 0, none⟩ = some (.pointer (some ⟨p, 0, none⟩)) := A.out.cell 0
  obtain ⟨b0, b1, b2, b3, b4, _⟩ := B.out.five_cells
  have c0 : w2.cell? ⟨CB, 0, none⟩ = some (.int .i64 0) := C.out.cell 0
  have cf : w2.frozen? ⟨CB, 0, none⟩ = false := C.out.frozen 0
  rw [h2]
  go_wp2_with fail
  refine (isRank14_any rank _).mono ?_
  rintro e w3 ⟨rfl, rfl⟩
  rw [h3]
  go_wp2_with fail
  refine (ageLive_any now _ _).mono ?_
  rintro e w4 ⟨rfl, rfl⟩
  rw [h4]
  go_wp2_with fail
  refine (HYD.out _ K.out).mono ?_
  rintro e w5 ⟨rfl, k1⟩
  replace A := hide (A.out.keeps k1)
  replace B := hide (B.out.keeps k1)
  replace C := hide (C.out.keeps k1)
  replace K := hide (K.out.trans k1)
  clear k1 a0 b0 b1 b2 b3 b4 c0 cf
  have a0 : w5.cell? ⟨F, 0, none⟩ = some (.pointer (some ⟨p, 0, none⟩)) := A.out.cell 0
  obtain ⟨b0, b1, b2, b3, b4, _⟩ := B.out.five_cells
  have c0 : w5.cell? ⟨CB, 0, none⟩ = some (.int .i64 0) := C.out.cell 0
  have cf : w5.frozen? ⟨CB, 0, none⟩ = false := C.out.frozen 0
  rw [h5]
  go_wp2_with fail
  have A2 : (w5.setCell ⟨CB, 0, none⟩ (.int .i64 10)).cell? ⟨F, 0, none⟩ = some (.pointer (some ⟨p, 0, none⟩)) := (A.out.other (a := ⟨CB, 0, none⟩) hAC.out.1 (.int .i64 10)).cell 0
  have C2 : (w5.setCell ⟨CB, 0, none⟩ (.int .i64 10)).cell? ⟨CB, 0, none⟩ = some (.int .i64 10) := by have := (C.out.set 0 (.int .i64 10)).cell 0; simpa using this
  have K2 := K.out.setC ⟨CB, 0, none⟩ hle.out (.int .i64 10)
  generalize w5.setCell ⟨CB, 0, none⟩ (.int .i64 10) = W2 at *
  refine leaves_cons (f := 68) (args := #[.pointer (some ⟨F, 0, none⟩), .pointer (some ⟨CB, 0, none⟩)]) (by simp) (by simp [go_sem]) ?_
  refine (putDefer_no F CB 10 (by decide) (.pointer (some ⟨p, 0, none⟩)) rfl _ W2 A2 C2).mono ?_
  rintro e u' w'' ⟨rfl, rfl, rfl⟩
  have hEND : Ending.returned (.int .i64 10) = .returned (.int .i64 10) ∧ Keeps w w'' := ⟨rfl, K2⟩
  simpa [Leaves, settle, results, Try.results15, go_sem, C2] using hEND

end Go.Proofs.Ytdlaepfnogmebaa

namespace Go.Proofs.Ytdlaepfnogmebaa
open Go.RowKit
variable {XG : Nat → Prop}

theorem ReadRow.setOther {w : World} {v : Value} {c : Nat} {rows : List (List Value)} (h : ReadRow w v c rows) {x : Addr} (hx : ∀ a k cp, v = .slice (some a) k cp → a.block ≠ x.block) (u : Value) : ReadRow (w.setCell x u) v c rows := by
  obtain ⟨av, cap, rfl, hle, hp⟩ := h
  refine ⟨av, cap, rfl, hle, fun hpos => ?_⟩
  obtain ⟨g, off, rfl, hlt, hc⟩ := hp hpos
  have hg : g ≠ x.block := hx _ _ _ rfl
  refine ⟨g, off, rfl, by simpa [World.setCell] using hlt, fun i hi j hj => ?_⟩
  rw [World.cell?_of_block (w := w) (Below.heap_setCell w x u g hg)]
  exact hc i hi j hj
theorem readS_of_tv {w : World} {v : Value} {ls : List (List UInt8)} (h : ReadRow w v 1 (ls.map tv)) : ReadS w v ls := by
  obtain ⟨a, cap, rfl, hle, hc⟩ := h
  rw [List.length_map] at hle ⊢
  refine ⟨a, cap, rfl, hle, fun i hi => ?_⟩
  obtain ⟨b, off, rfl, hb, hcell⟩ := hc (by rw [List.length_map]; omega)
  refine ⟨_, rfl, ?_⟩
  have := hcell i (by rw [List.length_map]; exact hi) 0 (by decide)
  rw [Nat.mul_one, Nat.add_zero] at this
  rw [add_none, this]
  simp [tv]
theorem put_ok {s : Sto} {x : It} (h : StoOk s) (hx : ItFine x) : StoOk ⟨s.room, Sto.cut (Sto.without s.items x.set.key ++ [x]) s.room, s.changes + 1⟩ := by
  have hr := h.room
  refine ⟨h.room, ?_, ?_, ?_, ?_⟩
  · show ((Sto.cut _ s.room).length : Int) ≤ s.room
    unfold Sto.cut
    rw [List.length_drop]
    have := Lr.cutAt_val (Sto.without s.items x.set.key ++ [x]).length s.room
    omega
  · show (Sto.keysL (Sto.cut _ s.room)).Nodup
    unfold Sto.cut
    rw [Sto.keysL_drop, Sto.touch_keys]
    exact List.Sublist.nodup (List.drop_sublist _ _) (Sto.nodup_touch h.nodup _)
  · intro i hi
    have hm : i ∈ Sto.without s.items x.set.key ++ [x] := List.mem_of_mem_drop hi
    rw [List.mem_append, List.mem_singleton] at hm
    rcases hm with hm | hm
    · exact h.fine i (List.mem_filter.1 hm).1
    · rw [hm]; exact hx
  · have := h.count
    show 0 ≤ s.changes + 1
    omega
theorem till_bound (now ttl : Int) : -1 ≤ Ag.till now ttl ∧ Ag.till now ttl ≤ 1099512232576 := by
  unfold Ag.till
  split
  · rename_i h
    simp only [Bool.and_eq_true, Ag.isT, decide_eq_true_eq] at h
    omega
  · omega
theorem isR_bound {r : Int} (h : Rk.isR r = true) : 1 ≤ r ∧ r ≤ 5 := by simpa [Rk.isR] using h
def PutEnd (XG : Nat → Prop) (w : World) (p m : Nat) (c : Int) (s' : Sto) (e : Ending) (w' : World) : Prop := e = .returned (.int .i64 c) ∧ SAt XG w' p m s' ∧ KB p m w w'

set_option maxHeartbeats 16000000 in
set_option maxRecDepth 100000 in
theorem Put_ok (p m : Nat) (s : Sto) (now : Int) (v : Value) (x : St) (rank : Int) (w : World) (hx : StAt w v x) (hf : StFine x) (hin : StIn x) (h : SAt XG w p m s) (h1 : ¬ Ag.till now x.ttl < 0) (h2 : stOk x = true) (h3 : Rk.isR rank = true) (h4 : Ag.live now (Ag.till now x.ttl) = true) (h5 : Sto.yields s now x.key rank = true) (hd6 : x.ds.length ≤ 1000000) (hch : s.changes ≤ 1099511627776) :
    Calls Try.prog 15 #[.pointer (some ⟨p, 0, none⟩), .int .i64 now, v, .int .i64 rank] w fun e w' => PutEnd XG w p m 0 ⟨s.room, Sto.cut (Sto.without s.items x.key ++ [⟨x, Ag.till now x.ttl, rank⟩]) s.room, s.changes + 1⟩ e w' := by
  have hmf : ∀ (fn : Fn) (first cap : Array Value) (w : World), (Instr.makeFunc fn first cap).run Try.prog w = .ok (.func fn first cap) w := fun _ _ _ _ => rfl
  have HGC := hide (fun W (kk : Keeps w W) => GCheck_any v x W (hx.keeps kk) hf)
  have hS := hide h
  have HMD := hide (fun W (kk : Keeps w W) => isMade_any p m s W (h.keeps kk))
  have HYD := hide (fun W (kk : Keeps w W) => yields_any p m s now x.key rank W (h.keeps kk) hin.1)
  have hIT : ItFine ⟨x, Ag.till now x.ttl, rank⟩ := ⟨hf, hin, hd6, (show -9223372036854775808 ≤ Ag.till now x.ttl ∧ Ag.till now x.ttl ≤ 9223372036854775807 by have := till_bound now x.ttl; omega), (show -9223372036854775808 ≤ rank ∧ rank ≤ 9223372036854775807 by have := isR_bound h3; omega)⟩
  obtain ⟨g1, g2, v0, n, f, g3, g4, g5, g6, g7, g8⟩ := h
  have hplt := g3.lt
  have hmlt := g6.lt
  have HDS := hide (fun vd (e : v = .agg #[.string x.key.n, .int .i64 x.key.t, .int .i64 x.key.c, vd, .int .i64 x.ttl]) => (show ReadS w vd x.ds by obtain ⟨vd', e', hd⟩ := hx; rw [e'] at e; simp at e; subst e; exact hd))
  obtain ⟨vd, rfl, hds⟩ := hx
  obtain ⟨va, vc, rfl⟩ := hds.len
  have A := hide (((Blk.made w #[.pointer (some ⟨p, 0, none⟩)] 25).alloc (.cells #[.string x.key.n, .int .i64 x.key.t, .int .i64 x.key.c, .slice va x.ds.length vc, .int .i64 x.ttl] 35)).alloc (.cells #[.int .i64 0] 38))
  have B := (Blk.made (w.alloc (.cells #[.pointer (some ⟨p, 0, none⟩)] 25)) #[.string x.key.n, .int .i64 x.key.t, .int .i64 x.key.c, .slice va x.ds.length vc, .int .i64 x.ttl] 35).alloc (.cells #[.int .i64 0] 38)
  have C := Blk.made ((w.alloc (.cells #[.pointer (some ⟨p, 0, none⟩)] 25)).alloc (.cells #[.string x.key.n, .int .i64 x.key.t, .int .i64 x.key.c, .slice va x.ds.length vc, .int .i64 x.ttl] 35)) #[.int .i64 0] 38
  rw [size_allocG] at B
  rw [size_allocG, size_allocG] at C
  replace B := hide B
  replace C := hide C
  have K := hide ((((Keeps.refl w).alloc (.cells #[.pointer (some ⟨p, 0, none⟩)] 25)).alloc (.cells #[.string x.key.n, .int .i64 x.key.t, .int .i64 x.key.c, .slice va x.ds.length vc, .int .i64 x.ttl] 35)).alloc (.cells #[.int .i64 0] 38))
  go_enter_defers Try.func15, Try.ntmps15
  go_upto_region 2 with fail
  generalize ((w.alloc (.cells #[.pointer (some ⟨p, 0, none⟩)] 25)).alloc (.cells #[.string x.key.n, .int .i64 x.key.t, .int .i64 x.key.c, .slice va x.ds.length vc, .int .i64 x.ttl] 35)).alloc (.cells #[.int .i64 0] 38) = W at *
  have hle : Hid (w.heap.size ≤ w.heap.size + 1 + 1) := by rw [Hid]; omega
  have hAC : Hid (w.heap.size + 1 + 1 ≠ w.heap.size ∧ w.heap.size + 1 + 1 ≠ w.heap.size + 1) := by rw [Hid]; omega
  have hpX : Hid (w.heap.size ≠ p ∧ w.heap.size ≠ m ∧ w.heap.size + 1 ≠ p ∧ w.heap.size + 1 ≠ m ∧ w.heap.size + 1 + 1 ≠ p ∧ w.heap.size + 1 + 1 ≠ m) := by rw [Hid]; omega
  generalize w.heap.size + 1 + 1 = CB at *
  generalize w.heap.size + 1 = BB at *
  generalize hF : w.heap.size = F at A hAC hpX ⊢
  replace hF := hide hF
  have a0 : W.cell? ⟨F, 0, none⟩ = some (.pointer (some ⟨p, 0, none⟩)) := A.out.cell 0
  obtain ⟨b0, b1, b2, b3, b4, _⟩ := B.out.five_cells
  have c0 : W.cell? ⟨CB, 0, none⟩ = some (.int .i64 0) := C.out.cell 0
  have cf : W.frozen? ⟨CB, 0, none⟩ = false := C.out.frozen 0
  go_wp2_with fail
  refine (until_any now x.ttl _ hin.2).mono ?_
  rintro e w1 ⟨rfl, rfl⟩
  go_wp2_with fail
  refine (HMD.out _ K.out).mono ?_
  rintro e w1 ⟨rfl, rfl⟩
  go_wp2_with fail
  refine (HGC.out _ K.out).mono ?_
  rintro e w2 ⟨rfl, k1⟩
  replace A := hide (A.out.keeps k1)
  replace B := hide (B.out.keeps k1)
  replace C := hide (C.out.keeps k1)
  replace K := hide (K.out.trans k1)
  clear k1 a0 b0 b1 b2 b3 b4 c0 cf
  have a0 : w2.cell? ⟨F, 0, none⟩ = some (.pointer (some ⟨p, 0, none⟩)) := A.out.cell 0
  obtain ⟨b0, b1, b2, b3, b4, _⟩ := B.out.five_cells
  have c0 : w2.cell? ⟨CB, 0, none⟩ = some (.int .i64 0) := C.out.cell 0
  have cf : w2.frozen? ⟨CB, 0, none⟩ = false := C.out.frozen 0
  rw [h2]
  go_wp2_with fail
  refine (isRank14_any rank _).mono ?_
  rintro e w3 ⟨rfl, rfl⟩
  rw [h3]
  go_wp2_with fail
  refine (ageLive_any now _ _).mono ?_
  rintro e w4 ⟨rfl, rfl⟩
  rw [h4]
  go_wp2_with fail
  refine (HYD.out _ K.out).mono ?_
  rintro e w5 ⟨rfl, k1⟩
  replace A := hide (A.out.keeps k1)
  replace B := hide (B.out.keeps k1)
  replace C := hide (C.out.keeps k1)
  replace K := hide (K.out.trans k1)
  clear k1 a0 b0 b1 b2 b3 b4 c0 cf
  have a0 : w5.cell? ⟨F, 0, none⟩ = some (.pointer (some ⟨p, 0, none⟩)) := A.out.cell 0
  obtain ⟨b0, b1, b2, b3, b4, _⟩ := B.out.five_cells
  have c0 : w5.cell? ⟨CB, 0, none⟩ = some (.int .i64 0) := C.out.cell 0
  have cf : w5.frozen? ⟨CB, 0, none⟩ = false := C.out.frozen 0
  rw [h5]
  have HOW := hide (fun W (kk : Keeps w W) => own_any (.slice va x.ds.length vc) ⟨x, Ag.till now x.ttl, rank⟩ W (hds.keeps kk) hd6)
  have HKP := hide (fun vd' W (kk : Keeps w W) (hform : ∃ a c, vd' = .slice a x.ds.length c) => keep_any (XG := XG) p m s ⟨x, Ag.till now x.ttl, rank⟩ vd' W g1 g2 v0 n f (g3.keeps kk) (g4.keeps kk) g5.ap (g6.keeps kk) g7 hIT hform hch)
  unfold itV at HOW HKP
  simp only at HOW HKP
  have T : w5.drew.cell? ⟨F, 0, none⟩ = some (.pointer (some ⟨p, 0, none⟩)) ∧ w5.drew.cell? ⟨BB, 0, none⟩ = some (.string x.key.n) ∧ w5.drew.cell? ⟨BB, 1, none⟩ = some (.int .i64 x.key.t) ∧ w5.drew.cell? ⟨BB, 2, none⟩ = some (.int .i64 x.key.c) ∧ w5.drew.cell? ⟨BB, 3, none⟩ = some (.slice va x.ds.length vc) ∧ w5.drew.cell? ⟨BB, 4, none⟩ = some (.int .i64 x.ttl) := ⟨a0, b0, b1, b2, b3, b4⟩
  have HTT : Hid (∀ w', KB p m w5.drew w' → w'.cell? ⟨F, 0, none⟩ = some (.pointer (some ⟨p, 0, none⟩)) ∧ w'.cell? ⟨BB, 0, none⟩ = some (.string x.key.n) ∧ w'.cell? ⟨BB, 1, none⟩ = some (.int .i64 x.key.t) ∧ w'.cell? ⟨BB, 2, none⟩ = some (.int .i64 x.key.c) ∧ w'.cell? ⟨BB, 3, none⟩ = some (.slice va x.ds.length vc) ∧ w'.cell? ⟨BB, 4, none⟩ = some (.int .i64 x.ttl)) := fun w' k =>
    ⟨(A.out.drew.kb hpX.out.1 hpX.out.2.1 k).cell 0, (B.out.drew.kb hpX.out.2.2.1 hpX.out.2.2.2.1 k).cell 0, (B.out.drew.kb hpX.out.2.2.1 hpX.out.2.2.2.1 k).cell 1, (B.out.drew.kb hpX.out.2.2.1 hpX.out.2.2.2.1 k).cell 2, (B.out.drew.kb hpX.out.2.2.1 hpX.out.2.2.2.1 k).cell 3, (B.out.drew.kb hpX.out.2.2.1 hpX.out.2.2.2.1 k).cell 4⟩
  have KX := hide (KB.refl p m w5.drew)
  have KJ := hide K.out.drew
  generalize hTL : Ag.till now x.ttl = TL at *
  replace hTL := hide hTL
  clear a0 b0 b1 b2 b3 b4 c0 cf HMD HYD HGC
  go_upto_region 9 with fail
  go_region_held3 (fun w' => w'.cell? ⟨F, 0, none⟩ = some (.pointer (some ⟨p, 0, none⟩)) ∧ w'.cell? ⟨BB, 0, none⟩ = some (.string x.key.n) ∧ w'.cell? ⟨BB, 1, none⟩ = some (.int .i64 x.key.t) ∧ w'.cell? ⟨BB, 2, none⟩ = some (.int .i64 x.key.c) ∧ w'.cell? ⟨BB, 3, none⟩ = some (.slice va x.ds.length vc) ∧ w'.cell? ⟨BB, 4, none⟩ = some (.int .i64 x.ttl)) (exact T) ((first | (go_at_call 77; refine (HOW.out _ KJ.out).mono ?_; intro e w6 hE; obtain ⟨vd', rfl, od, k6⟩ := hE; obtain ⟨da, dc, hdf⟩ := od.form; rw [List.length_map] at hdf; subst hdf; have OD := hide od; have hsz6 := hide k6.size; have KJ6 := hide (KJ.out.trans k6); replace KX := hide (KX.out.trans (KB.of k6)); replace T := HTT.out _ KX.out; clear od k6) | (go_at_call 76; refine (HKP.out _ _ KJ6.out ⟨_, _, rfl⟩).mono ?_; intro e w7 hE; have HKE := hide hE; obtain ⟨rfl, kb7, _⟩ := hE; have KX7 := hide kb7; replace KX := hide (KX.out.trans kb7); replace T := HTT.out _ KX.out; clear kb7)))
  obtain ⟨_, _, vu, n', f', bu, ru, au, mu, hn', hfk⟩ := HKE.out
  have C5lt : Hid (CB < w6.heap.size) := Nat.lt_of_lt_of_le C.out.lt hsz6.out
  have A7 := hide (A.out.drew.kb hpX.out.1 hpX.out.2.1 KX.out)
  have C7 := hide (C.out.drew.kb hpX.out.2.2.2.2.1 hpX.out.2.2.2.2.2 KX.out)
  have hp6 : Hid (p < w6.heap.size) := Nat.lt_of_lt_of_le hplt KJ6.out.size
  have hm6 : Hid (m < w6.heap.size) := Nat.lt_of_lt_of_le hmlt KJ6.out.size
  have hp5 : Hid (p < w5.drew.heap.size) := Nat.lt_of_lt_of_le hplt KJ.out.size
  have hm5 : Hid (m < w5.drew.heap.size) := Nat.lt_of_lt_of_le hmlt KJ.out.size
  have hC5 : Hid (CB < w5.drew.heap.size) := C.out.lt
  have AD := hide (OD.out.apart hp5.out hm5.out)
  have hg5 : Hid (∀ g, XG g → g < w5.drew.heap.size) := fun g hg => Nat.lt_of_lt_of_le (g5.gl g hg) KJ.out.size
  have hg6 : Hid (∀ g, XG g → g < w6.heap.size) := fun g hg => Nat.lt_of_lt_of_le (g5.gl g hg) KJ6.out.size
  have PD := hide ((OD.out.pl hp5.out hm5.out hg5.out hg6.out).size KX7.out.size)
  have RD := hide ((readS_of_tv OD.out.read).kb AD.out KX7.out)
  have RDr := hide ((OD.out.read).kb AD.out KX7.out)
  have AV := hide OD.out.above
  have KB7 := hide ((KB.of (p := p) (m := m) KJ6.out).trans KX7.out)
  have c7 : w7.cell? ⟨CB, 0, none⟩ = some (.int .i64 0) := C7.out.cell 0
  have f7 : w7.frozen? ⟨CB, 0, none⟩ = false := C7.out.frozen 0
  replace bu := hide bu
  replace ru := hide ru
  replace au := hide au
  replace mu := hide mu
  replace hfk := hide hfk
  clear T HTT HKE HOW HKP KX A C B
  go_wp2_with fail
  have A8 : (w7.setCell ⟨CB, 0, none⟩ (.int .i64 0)).cell? ⟨F, 0, none⟩ = some (.pointer (some ⟨p, 0, none⟩)) := (A7.out.other (a := ⟨CB, 0, none⟩) hAC.out.1 (.int .i64 0)).cell 0
  have C8 := hide (show Blk (w7.setCell ⟨CB, 0, none⟩ (.int .i64 0)) CB #[.int .i64 0] 38 by have := C7.out.set 0 (.int .i64 0); simpa using this)
  have S8 := hide (bu.out.other (a := ⟨CB, 0, none⟩) hpX.out.2.2.2.2.1 (.int .i64 0))
  have M8 := hide (mu.out.same (w' := w7.setCell ⟨CB, 0, none⟩ (.int .i64 0)) (Below.heap_setCell _ _ _ _ (fun e => hpX.out.2.2.2.2.2 e.symm)))
  have R8 := hide (ru.out.setOther (x := ⟨CB, 0, none⟩) (fun a k cp e => by have := (au.out a k cp e).1; have := C5lt.out; show a.block ≠ CB; omega) (.int .i64 0))
  have RD8 := hide (RDr.out.setOther (x := ⟨CB, 0, none⟩) (fun a k cp e => by have := AV.out a k cp e; have := hC5.out; show a.block ≠ CB; omega) (.int .i64 0))
  have KB8 := hide (KB7.out.setNew (x := ⟨CB, 0, none⟩) hle.out (.int .i64 0))
  have hs8 : Hid ((w7.setCell ⟨CB, 0, none⟩ (.int .i64 0)).heap.size = w7.heap.size) := by simp [Hid, World.setCell]
  generalize w7.setCell ⟨CB, 0, none⟩ (.int .i64 0) = W8 at *
  refine leaves_cons (f := 68) (args := #[.pointer (some ⟨F, 0, none⟩), .pointer (some ⟨CB, 0, none⟩)]) (by simp) (by simp [go_sem]) ?_
  refine (putDefer_yes F CB p s.changes _ W8 A8 (C8.out.cell 0) (S8.out.cell 3) (S8.out.frozen 3) ⟨g2.count, hch⟩).mono ?_
  rintro e u' w'' ⟨rfl, rfl, rfl⟩
  have C9 : (W8.setCell ⟨p, 3, none⟩ (.int .i64 (s.changes + 1))).cell? ⟨CB, 0, none⟩ = some (.int .i64 0) := (C8.out.other (a := ⟨p, 3, none⟩) (fun e => hpX.out.2.2.2.2.1 e.symm) (.int .i64 (s.changes + 1))).cell 0
  have S9 : Blk (W8.setCell ⟨p, 3, none⟩ (.int .i64 (s.changes + 1))) p #[.int .i64 s.room, .map (some m), vu, .int .i64 (s.changes + 1)] 121 := by
    have := S8.out.set 3 (.int .i64 (s.changes + 1))
    simpa using this
  have KB9 : KB p m w (W8.setCell ⟨p, 3, none⟩ (.int .i64 (s.changes + 1))) := KB8.out.trans (KB.setP W8 3 _)
  have hAU : Apart vu p m := fun a k cp e => by
    have h1 := (au.out a k cp e).1
    have h2 := hp6.out
    have h3 := hm6.out
    exact ⟨by omega, by omega, by omega⟩
  have hEND : PutEnd XG w p m 0 ⟨s.room, Sto.cut (Sto.without s.items x.key ++ [⟨x, TL, rank⟩]) s.room, s.changes + 1⟩ (.returned (.int .i64 0)) (W8.setCell ⟨p, 3, none⟩ (.int .i64 (s.changes + 1))) := by
    have hs9 : w7.heap.size ≤ (W8.setCell ⟨p, 3, none⟩ (.int .i64 (s.changes + 1))).heap.size := by rw [show (W8.setCell ⟨p, 3, none⟩ (.int .i64 (s.changes + 1))).heap.size = W8.heap.size by simp [World.setCell], hs8.out]; exact Nat.le_refl _
    have hPU : Pl XG (W8.setCell ⟨p, 3, none⟩ (.int .i64 (s.changes + 1))) vu p m := ⟨hAU, fun a k cp e => ⟨fun hx => by have h1 := (au.out a k cp e).1; have h2 := hg6.out _ hx; omega, Nat.lt_of_lt_of_le (au.out a k cp e).2 hs9⟩, fun g hg => Nat.lt_of_lt_of_le (g5.gl g hg) KB9.size⟩
    refine ⟨rfl, ⟨g1, put_ok (x := ⟨x, TL, rank⟩) g2 hIT, vu, n', f', S9, ?_, hPU, M8.out.same (Below.heap_setCell _ _ _ _ (fun e => g1 e.symm)), hn', fun q => ?_⟩, KB9⟩
    · exact R8.out.setOther (x := ⟨p, 3, none⟩) (fun a k cp e => (hAU a k cp e).1) _
    · exact hfk.out _ (fun q => (g8 q).kb KB9) (readS_of_tv (RD8.out.setOther (x := ⟨p, 3, none⟩) (fun a k cp e => (AD.out a k cp e).1) _)) (PD.out.size hs9) q
  rw [← hTL.out] at hEND
  simpa [Leaves, settle, results, Try.results15, go_sem, C9] using hEND
end Go.Proofs.Ytdlaepfnogmebaa

namespace Go.Proofs.Ytdlaepfnogmebaa
open Go.RowKit
variable {XG : Nat → Prop}

theorem stOk_ttl {x : St} (h : stOk x = true) : 0 ≤ x.ttl := by
  rw [stOk_doc] at h
  simp only [Bool.and_eq_true, decide_eq_true_eq] at h
  omega
theorem till_neg {now : Int} {x : St} (h : Ag.till now x.ttl < 0) : (Ag.isT now && stOk x) = false := by
  unfold Ag.till at h
  split at h
  · rename_i hh
    simp only [Bool.and_eq_true, Ag.isT, decide_eq_true_eq] at hh
    omega
  · rename_i hh
    cases hs : stOk x
    · simp
    · have := stOk_ttl hs
      have : decide (0 ≤ x.ttl) = true := decide_eq_true this
      rw [this] at hh
      simpa using hh
theorem till_pos {now : Int} {x : St} (h : ¬ Ag.till now x.ttl < 0) : Ag.isT now = true := by
  unfold Ag.till at h
  split at h
  · rename_i hh
    simp only [Bool.and_eq_true] at hh
    exact hh.1
  · omega

theorem Put_any (p m : Nat) (s : Sto) (now : Int) (v : Value) (x : St) (rank : Int) (w : World) (hx : StAt w v x) (hf : StFine x) (hin : StIn x) (h : SAt XG w p m s) (hd6 : x.ds.length ≤ 1000000) (hch : s.changes ≤ 1099511627776) :
    Calls Try.prog 15 #[.pointer (some ⟨p, 0, none⟩), .int .i64 now, v, .int .i64 rank] w fun e w' => PutEnd XG w p m (Sto.putE s now x rank) (Sto.put s now x rank) e w' := by
  have bad : ∀ c, Sto.putE s now x rank = c → c ≠ 0 → ∀ e w', (e = .returned (.int .i64 c) ∧ Keeps w w') → PutEnd XG w p m (Sto.putE s now x rank) (Sto.put s now x rank) e w' := by
    rintro c hc h0 e w' ⟨rfl, k⟩
    have : Sto.put s now x rank = s := by unfold Sto.put; rw [hc, if_neg h0]
    rw [this, hc]
    exact ⟨rfl, h.keeps k, KB.of k⟩
  by_cases h1 : Ag.till now x.ttl < 0
  · have hc : Sto.putE s now x rank = 1 := by
      unfold Sto.putE
      rw [till_neg h1]; simp
    exact (Put_arg1 p m s now v x rank w hx hf hin h h1).mono (bad 1 hc (by decide))
  have ht := till_pos h1
  cases h2 : stOk x
  · have hc : Sto.putE s now x rank = 1 := by unfold Sto.putE; rw [h2]; simp
    exact (Put_arg2 p m s now v x rank w hx hf hin h h1 h2).mono (bad 1 hc (by decide))
  cases h3 : Rk.isR rank
  · have hc : Sto.putE s now x rank = 1 := by unfold Sto.putE; rw [h3]; simp
    exact (Put_arg3 p m s now v x rank w hx hf hin h h1 h2 h3).mono (bad 1 hc (by decide))
  cases h4 : Ag.live now (Ag.till now x.ttl)
  · have hc : Sto.putE s now x rank = 14 := by unfold Sto.putE; rw [ht, h2, h3, h4]; simp
    exact (Put_time p m s now v x rank w hx hf hin h h1 h2 h3 h4).mono (bad 14 hc (by decide))
  have hy : Sto.putE s now x rank = if Sto.yields s now x.key rank = true then 0 else 10 := by
    unfold Sto.putE Sto.yields
    rw [ht, h2, h3, h4]
    simp only [Bool.and_self, if_true]
    cases Sto.find s.items x.key <;> rfl
  cases h5 : Sto.yields s now x.key rank
  · have hc : Sto.putE s now x rank = 10 := by rw [hy, h5]; rfl
    exact (Put_rank p m s now v x rank w hx hf hin h h1 h2 h3 h4 h5).mono (bad 10 hc (by decide))
  · have hc : Sto.putE s now x rank = 0 := by rw [hy, h5]; rfl
    have hp : Sto.put s now x rank = ⟨s.room, Sto.cut (Sto.without s.items x.key ++ [⟨x, Ag.till now x.ttl, rank⟩]) s.room, s.changes + 1⟩ := by unfold Sto.put; rw [hc, if_pos rfl]
    rw [hc, hp]
    exact Put_ok p m s now v x rank w hx hf hin h h1 h2 h3 h4 h5 hd6 hch

set_option maxHeartbeats 8000000 in
set_option maxRecDepth 100000 in
theorem told14_any (n : ByteArray) (t c ttl u rk : Int) (a : Option Addr) (l cp : Nat) (w : World) :
    Calls Try.prog 19 #[.agg #[.string n, .int .i64 t, .int .i64 c, .slice a l cp, .int .i64 ttl, .int .i64 u, .int .i64 rk]] w fun e w' => e = .returned (.agg #[.string n, .int .i64 t, .int .i64 c, .slice a l cp, .int .i64 ttl, .int .i64 u, .int .i64 rk]) ∧ Keeps w w' := by
  have A := hide ((Blk.made w #[.string n, .int .i64 t, .int .i64 c, .slice a l cp, .int .i64 ttl, .int .i64 u, .int .i64 rk] 46).alloc (.cells #[.string ⟨#[]⟩, .int .i64 0, .int .i64 0, .slice none 0 0, .int .i64 0, .int .i64 0, .int .i64 0] 43))
  have R := Blk.made (w.alloc (.cells #[.string n, .int .i64 t, .int .i64 c, .slice a l cp, .int .i64 ttl, .int .i64 u, .int .i64 rk] 46)) #[.string ⟨#[]⟩, .int .i64 0, .int .i64 0, .slice none 0 0, .int .i64 0, .int .i64 0, .int .i64 0] 43
  rw [size_allocG] at R
  replace R := hide R
  have K := hide (((Keeps.refl w).alloc (.cells #[.string n, .int .i64 t, .int .i64 c, .slice a l cp, .int .i64 ttl, .int .i64 u, .int .i64 rk] 46)).alloc (.cells #[.string ⟨#[]⟩, .int .i64 0, .int .i64 0, .slice none 0 0, .int .i64 0, .int .i64 0, .int .i64 0] 43))
  go_enter Try.func19, Try.ntmps19
  go_upto_region 1 with fail
  generalize (w.alloc (.cells #[.string n, .int .i64 t, .int .i64 c, .slice a l cp, .int .i64 ttl, .int .i64 u, .int .i64 rk] 46)).alloc (.cells #[.string ⟨#[]⟩, .int .i64 0, .int .i64 0, .slice none 0 0, .int .i64 0, .int .i64 0, .int .i64 0] 43) = W at *
  have hle : Hid (w.heap.size ≤ w.heap.size + 1) := Nat.le_succ _
  generalize w.heap.size + 1 = G at *
  generalize hF : w.heap.size = F at A ⊢
  replace hF := hide hF
  obtain ⟨⟨a0, a1, a2, a3, a4, a5, a6⟩, _, _⟩ := A.out.seven
  obtain ⟨⟨r0, r1, r2, r3, r4, r5, r6⟩, ⟨g0, g1, g2, g3, g4, g5, g6⟩, _⟩ := R.out.seven
  have R3 := hide (set7_blk R.out (.string n) (.int .i64 t) (.int .i64 c) (.slice a l cp) (.int .i64 ttl) (.int .i64 u) (.int .i64 rk))
  have K3 := hide (set7_keeps K.out hle.out (.string n) (.int .i64 t) (.int .i64 c) (.slice a l cp) (.int .i64 ttl) (.int .i64 u) (.int .i64 rk))
  unfold set7 at R3 K3
  clear A R K
  go_wp2_with fail
  generalize ((((((W.setCell ⟨G, 0, none⟩ (.string n)).setCell ⟨G, 1, none⟩ (.int .i64 t)).setCell ⟨G, 2, none⟩ (.int .i64 c)).setCell ⟨G, 3, none⟩ (.slice a l cp)).setCell ⟨G, 4, none⟩ (.int .i64 ttl)).setCell ⟨G, 5, none⟩ (.int .i64 u)).setCell ⟨G, 6, none⟩ (.int .i64 rk) = W9 at *
  obtain ⟨⟨s0, s1, s2, s3, s4, s5, s6⟩, _, _⟩ := R3.out.seven
  exact bodyPost_ret (v := .agg #[.string n, .int .i64 t, .int .i64 c, .slice a l cp, .int .i64 ttl, .int .i64 u, .int .i64 rk]) (by simp [results, Try.results19, go_sem, s0, s1, s2, s3, s4, s5, s6]) rfl ⟨rfl, K3.out⟩

theorem it_eq (a b : It) : decide (a = b) = (decide (a.set = b.set) && decide (a.u = b.u) && decide (a.rank = b.rank)) := by
  rw [Bool.eq_iff_iff]
  simp only [Bool.and_eq_true, decide_eq_true_eq]
  constructor
  · rintro rfl; exact ⟨⟨rfl, rfl⟩, rfl⟩
  · rintro ⟨⟨h1, h2⟩, h3⟩
    cases a; cases b
    simp only at h1 h2 h3
    subst h1 h2 h3
    rfl
set_option maxHeartbeats 8000000 in
set_option maxRecDepth 100000 in
theorem One14_any (vd ud : Value) (a b : It) (w : World) (hv : ReadS w vd a.set.ds) (hu : ReadS w ud b.set.ds) (hl : a.set.ds.length ≤ 1099511627776) :
    Calls Try.prog 18 #[itV a vd, itV b ud] w fun e w' => e = .returned (.bool (decide (a = b))) ∧ Keeps w w' := by
  have HS := hide (fun W (kk : Keeps w W) => refGSame_any _ _ a.set b.set W (StAt.keeps ⟨vd, rfl, hv⟩ kk) (StAt.keeps ⟨ud, rfl, hu⟩ kk) hl)
  obtain ⟨va, vc, rfl⟩ := hv.len
  obtain ⟨ua, uc, rfl⟩ := hu.len
  have HE := hide (it_eq a b)
  generalize decide (a = b) = R at *
  generalize decide (a.set = b.set) = DS at *
  unfold itV
  have A := hide ((Blk.made w #[.string a.set.key.n, .int .i64 a.set.key.t, .int .i64 a.set.key.c, .slice va a.set.ds.length vc, .int .i64 a.set.ttl, .int .i64 a.u, .int .i64 a.rank] 43).alloc (.cells #[.string b.set.key.n, .int .i64 b.set.key.t, .int .i64 b.set.key.c, .slice ua b.set.ds.length uc, .int .i64 b.set.ttl, .int .i64 b.u, .int .i64 b.rank] 43))
  have B := Blk.made (w.alloc (.cells #[.string a.set.key.n, .int .i64 a.set.key.t, .int .i64 a.set.key.c, .slice va a.set.ds.length vc, .int .i64 a.set.ttl, .int .i64 a.u, .int .i64 a.rank] 43)) #[.string b.set.key.n, .int .i64 b.set.key.t, .int .i64 b.set.key.c, .slice ua b.set.ds.length uc, .int .i64 b.set.ttl, .int .i64 b.u, .int .i64 b.rank] 43
  rw [size_allocG] at B
  replace B := hide B
  have K := hide (((Keeps.refl w).alloc (.cells #[.string a.set.key.n, .int .i64 a.set.key.t, .int .i64 a.set.key.c, .slice va a.set.ds.length vc, .int .i64 a.set.ttl, .int .i64 a.u, .int .i64 a.rank] 43)).alloc (.cells #[.string b.set.key.n, .int .i64 b.set.key.t, .int .i64 b.set.key.c, .slice ua b.set.ds.length uc, .int .i64 b.set.ttl, .int .i64 b.u, .int .i64 b.rank] 43))
  go_enter Try.func18, Try.ntmps18
  go_upto_region 1 with fail
  generalize (w.alloc (.cells #[.string a.set.key.n, .int .i64 a.set.key.t, .int .i64 a.set.key.c, .slice va a.set.ds.length vc, .int .i64 a.set.ttl, .int .i64 a.u, .int .i64 a.rank] 43)).alloc (.cells #[.string b.set.key.n, .int .i64 b.set.key.t, .int .i64 b.set.key.c, .slice ua b.set.ds.length uc, .int .i64 b.set.ttl, .int .i64 b.u, .int .i64 b.rank] 43) = W at *
  generalize w.heap.size + 1 = G at *
  generalize hF : w.heap.size = F at A ⊢
  replace hF := hide hF
  obtain ⟨⟨a0, a1, a2, a3, a4, a5, a6⟩, _, _⟩ := A.out.seven
  obtain ⟨⟨b0, b1, b2, b3, b4, b5, b6⟩, _, _⟩ := B.out.seven
  go_wp2_with fail
  refine (HS.out _ K.out).mono ?_
  rintro e w1 ⟨rfl, k1⟩
  replace A := hide (A.out.keeps k1)
  replace B := hide (B.out.keeps k1)
  replace K := hide (K.out.trans k1)
  clear k1 a0 a1 a2 a3 a4 a5 a6 b0 b1 b2 b3 b4 b5 b6 HS
  obtain ⟨⟨a0, a1, a2, a3, a4, a5, a6⟩, _, _⟩ := A.out.seven
  obtain ⟨⟨b0, b1, b2, b3, b4, b5, b6⟩, _, _⟩ := B.out.seven
  generalize a.u = au at *
  generalize b.u = bu at *
  generalize a.rank = ar at *
  generalize b.rank = br at *
  cases DS
  · go_wp2
    go_ret
    exact ⟨ret_bool (by rw [HE.out]; rfl), K.out⟩
  by_cases h1 : au = bu
  · have hb1 : (au == bu) = true := by rw [h1]; simp
    by_cases h2 : ar = br
    · have hb2 : (ar == br) = true := by rw [h2]; simp
      have hr : R = true := by rw [HE.out, decide_eq_true h1, decide_eq_true h2]; rfl
      replace hr := hide hr
      replace h1 := hide h1
      replace h2 := hide h2
      go_wp2
      go_ret
      exact ⟨ret_bool hr.out.symm, K.out⟩
    · have hb2 : (ar == br) = false := by rw [beq_eq_false_iff_ne]; exact h2
      have hr : R = false := by rw [HE.out, decide_eq_true h1, decide_eq_false h2]; rfl
      replace hr := hide hr
      replace h1 := hide h1
      replace h2 := hide h2
      go_wp2
      go_ret
      exact ⟨ret_bool hr.out.symm, K.out⟩
  · have hb1 : (au == bu) = false := by rw [beq_eq_false_iff_ne]; exact h1
    have hr : R = false := by rw [HE.out, decide_eq_false h1]; rfl
    replace hr := hide hr
    replace h1 := hide h1
    go_wp2
    go_ret
    exact ⟨ret_bool hr.out.symm, K.out⟩

/-- A block below the store's own is written: the store is as it was. -/
theorem SAt.setFar {w : World} {p m : Nat} {s : Sto} (h : SAt XG w p m s) {x : Addr} (hp : x.block < p) (hm : x.block ≠ m) (u : Value) : SAt XG (w.setCell x u) p m s := by
  obtain ⟨h1, h2, v, n, f, h3, h4, h5, h6, h7, h8⟩ := h
  refine ⟨h1, h2, v, n, f, h3.other (by omega) u, h4.setOther (fun a k c e => by have := (h5.ap a k c e).2.2; omega) u, h5.size (by simp [World.setCell]), h6.same (Below.heap_setCell _ _ _ _ (fun e => hm e.symm)), h7, fun q => ?_⟩
  have h := h8 q
  cases hf : Sto.find s.items q with
  | none => rw [hf] at h; exact (show f q = none from h)
  | some i =>
    rw [hf] at h
    obtain ⟨vd, e1, e2, e3⟩ := h
    exact ⟨vd, e1, readS_of_tv ((readS_tv e2).setOther (fun a k c e => by have := (e3.ap a k c e).2.2; omega) u), e3.size (by simp [World.setCell])⟩
end Go.Proofs.Ytdlaepfnogmebaa
