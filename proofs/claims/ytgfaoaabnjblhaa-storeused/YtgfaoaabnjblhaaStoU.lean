/- A store into which something is put. No condition but lengths. -/
import Derived.Test.YtgfaoaabnjblhaaStoK
import Derived.Test.YtgfaoaabnjblhaaGrpR2
namespace Go.Proofs.Ytgfaoaabnjblhaa
open Go.RowKit

set_option maxHeartbeats 4000000 in
set_option maxRecDepth 100000 in
theorem isRank14_any (r : Int) (w : World) : Calls Try.prog 44 #[.int .i64 r] w fun e w' => e = .returned (.bool (Rk.isR r)) ∧ w' = w := by
  have HO := hide (over_any 0 r false w)
  rw [show Rk.over 0 false r = Rk.isR r by simp [Rk.over]] at HO
  go_enter Try.func44, Try.ntmps44
  go_wp2_with fail
  refine (HO.out).mono ?_
  rintro e w1 ⟨rfl, rfl⟩
  go_wp2
  go_ret
  exact ⟨rfl, rfl⟩


set_option maxHeartbeats 16000000 in
set_option maxRecDepth 100000 in
theorem Put_nil (now : Int) (v : Value) (x : St) (rank : Int) (w : World) (hx : StAt w v x) (hf : StFine x) (hin : StIn x) :
    Calls Try.prog 14 #[.pointer none, .int .i64 now, v, .int .i64 rank] w fun e w' => e = .returned (.int .i64 1) ∧ Keeps w w' := by
  have hmf : ∀ (fn : Fn) (first cap : Array Value) (w : World), (Instr.makeFunc fn first cap).run Try.prog w = .ok (.func fn first cap) w := fun _ _ _ _ => rfl
  have HGC := hide (fun W (kk : Keeps w W) => GCheck_any v x W (hx.keeps kk) hf)
  obtain ⟨vd, rfl, hds⟩ := hx
  obtain ⟨va, vc, rfl⟩ := hds.len
  have A := hide (((Blk.made w #[.pointer none] 25).alloc (.cells #[.string x.key.n, .int .i64 x.key.t, .int .i64 x.key.c, .slice va x.ds.length vc, .int .i64 x.ttl] 35)).alloc (.cells #[.int .i64 0] 38))
  have B := (Blk.made (w.alloc (.cells #[.pointer none] 25)) #[.string x.key.n, .int .i64 x.key.t, .int .i64 x.key.c, .slice va x.ds.length vc, .int .i64 x.ttl] 35).alloc (.cells #[.int .i64 0] 38)
  have C := Blk.made ((w.alloc (.cells #[.pointer none] 25)).alloc (.cells #[.string x.key.n, .int .i64 x.key.t, .int .i64 x.key.c, .slice va x.ds.length vc, .int .i64 x.ttl] 35)) #[.int .i64 0] 38
  rw [size_allocG] at B
  rw [size_allocG, size_allocG] at C
  replace B := hide B
  replace C := hide C
  have K := hide ((((Keeps.refl w).alloc (.cells #[.pointer none] 25)).alloc (.cells #[.string x.key.n, .int .i64 x.key.t, .int .i64 x.key.c, .slice va x.ds.length vc, .int .i64 x.ttl] 35)).alloc (.cells #[.int .i64 0] 38))
  go_enter_defers Try.func14, Try.ntmps14
  go_upto_region 2 with fail
  generalize ((w.alloc (.cells #[.pointer none] 25)).alloc (.cells #[.string x.key.n, .int .i64 x.key.t, .int .i64 x.key.c, .slice va x.ds.length vc, .int .i64 x.ttl] 35)).alloc (.cells #[.int .i64 0] 38) = W at *
  have hle : Hid (w.heap.size ≤ w.heap.size + 1 + 1) := by rw [Hid]; omega
  have hAC : Hid (w.heap.size + 1 + 1 ≠ w.heap.size ∧ w.heap.size + 1 + 1 ≠ w.heap.size + 1) := by rw [Hid]; omega
  generalize w.heap.size + 1 + 1 = CB at *
  generalize w.heap.size + 1 = BB at *
  generalize hF : w.heap.size = F at A hAC ⊢
  replace hF := hide hF
  have a0 : W.cell? ⟨F, 0, none⟩ = some (.pointer none) := A.out.cell 0
  obtain ⟨b0, b1, b2, b3, b4, _⟩ := B.out.five_cells
  have c0 : W.cell? ⟨CB, 0, none⟩ = some (.int .i64 0) := C.out.cell 0
  have cf : W.frozen? ⟨CB, 0, none⟩ = false := C.out.frozen 0
  go_wp2_with fail
  refine (until_any now x.ttl _ hin.2).mono ?_
  rintro e w1 ⟨rfl, rfl⟩
  go_wp2_with fail
  refine (isMade_nil _).mono ?_
  rintro e w1 ⟨rfl, rfl⟩
  go_wp2_with fail
  have A2 : (w1.setCell ⟨CB, 0, none⟩ (.int .i64 1)).cell? ⟨F, 0, none⟩ = some (.pointer none) := (A.out.other (a := ⟨CB, 0, none⟩) hAC.out.1 (.int .i64 1)).cell 0
  have C2 : (w1.setCell ⟨CB, 0, none⟩ (.int .i64 1)).cell? ⟨CB, 0, none⟩ = some (.int .i64 1) := by have := (C.out.set 0 (.int .i64 1)).cell 0; simpa using this
  have K2 := K.out.setC ⟨CB, 0, none⟩ hle.out (.int .i64 1)
  generalize w1.setCell ⟨CB, 0, none⟩ (.int .i64 1) = W2 at *
  refine leaves_cons (f := 39) (args := #[.pointer (some ⟨F, 0, none⟩), .pointer (some ⟨CB, 0, none⟩)]) (by simp) (by simp [go_sem]) ?_
  refine (putDefer_no F CB 1 (by decide) (.pointer none) rfl _ W2 A2 C2).mono ?_
  rintro e u' w'' ⟨rfl, rfl, rfl⟩
  have hEND : Ending.returned (.int .i64 1) = .returned (.int .i64 1) ∧ Keeps w w'' := ⟨rfl, K2⟩
  simpa [Leaves, settle, results, Try.results14, go_sem, C2] using hEND

set_option maxHeartbeats 16000000 in
set_option maxRecDepth 100000 in
theorem Put_arg1 (p m : Nat) (s : Sto) (now : Int) (v : Value) (x : St) (rank : Int) (w : World) (hx : StAt w v x) (hf : StFine x) (hin : StIn x) (h : SAt w p m s) (h1 : Ag.till now x.ttl < 0) :
    Calls Try.prog 14 #[.pointer (some ⟨p, 0, none⟩), .int .i64 now, v, .int .i64 rank] w fun e w' => e = .returned (.int .i64 1) ∧ Keeps w w' := by
  have hmf : ∀ (fn : Fn) (first cap : Array Value) (w : World), (Instr.makeFunc fn first cap).run Try.prog w = .ok (.func fn first cap) w := fun _ _ _ _ => rfl
  have HGC := hide (fun W (kk : Keeps w W) => GCheck_any v x W (hx.keeps kk) hf)
  have hS := hide h
  have HMD := hide (fun W (kk : Keeps w W) => isMade_any p m s W (h.keeps kk))
  obtain ⟨vd, rfl, hds⟩ := hx
  obtain ⟨va, vc, rfl⟩ := hds.len
  have A := hide (((Blk.made w #[.pointer (some ⟨p, 0, none⟩)] 25).alloc (.cells #[.string x.key.n, .int .i64 x.key.t, .int .i64 x.key.c, .slice va x.ds.length vc, .int .i64 x.ttl] 35)).alloc (.cells #[.int .i64 0] 38))
  have B := (Blk.made (w.alloc (.cells #[.pointer (some ⟨p, 0, none⟩)] 25)) #[.string x.key.n, .int .i64 x.key.t, .int .i64 x.key.c, .slice va x.ds.length vc, .int .i64 x.ttl] 35).alloc (.cells #[.int .i64 0] 38)
  have C := Blk.made ((w.alloc (.cells #[.pointer (some ⟨p, 0, none⟩)] 25)).alloc (.cells #[.string x.key.n, .int .i64 x.key.t, .int .i64 x.key.c, .slice va x.ds.length vc, .int .i64 x.ttl] 35)) #[.int .i64 0] 38
  rw [size_allocG] at B
  rw [size_allocG, size_allocG] at C
  replace B := hide B
  replace C := hide C
  have K := hide ((((Keeps.refl w).alloc (.cells #[.pointer (some ⟨p, 0, none⟩)] 25)).alloc (.cells #[.string x.key.n, .int .i64 x.key.t, .int .i64 x.key.c, .slice va x.ds.length vc, .int .i64 x.ttl] 35)).alloc (.cells #[.int .i64 0] 38))
  go_enter_defers Try.func14, Try.ntmps14
  go_upto_region 2 with fail
  generalize ((w.alloc (.cells #[.pointer (some ⟨p, 0, none⟩)] 25)).alloc (.cells #[.string x.key.n, .int .i64 x.key.t, .int .i64 x.key.c, .slice va x.ds.length vc, .int .i64 x.ttl] 35)).alloc (.cells #[.int .i64 0] 38) = W at *
  have hle : Hid (w.heap.size ≤ w.heap.size + 1 + 1) := by rw [Hid]; omega
  have hAC : Hid (w.heap.size + 1 + 1 ≠ w.heap.size ∧ w.heap.size + 1 + 1 ≠ w.heap.size + 1) := by rw [Hid]; omega
  generalize w.heap.size + 1 + 1 = CB at *
  generalize w.heap.size + 1 = BB at *
  generalize hF : w.heap.size = F at A hAC ⊢
  replace hF := hide hF
  have a0 : W.cell? ⟨F, 0, none⟩ = some (.pointer (some ⟨p, 0, none⟩)) := A.out.cell 0
  obtain ⟨b0, b1, b2, b3, b4, _⟩ := B.out.five_cells
  have c0 : W.cell? ⟨CB, 0, none⟩ = some (.int .i64 0) := C.out.cell 0
  have cf : W.frozen? ⟨CB, 0, none⟩ = false := C.out.frozen 0
  go_wp2_with fail
  refine (until_any now x.ttl _ hin.2).mono ?_
  rintro e w1 ⟨rfl, rfl⟩
  go_wp2_with fail
  refine (HMD.out _ K.out).mono ?_
  rintro e w1 ⟨rfl, rfl⟩
  go_wp2_with fail
  have A2 : (w1.setCell ⟨CB, 0, none⟩ (.int .i64 1)).cell? ⟨F, 0, none⟩ = some (.pointer (some ⟨p, 0, none⟩)) := (A.out.other (a := ⟨CB, 0, none⟩) hAC.out.1 (.int .i64 1)).cell 0
  have C2 : (w1.setCell ⟨CB, 0, none⟩ (.int .i64 1)).cell? ⟨CB, 0, none⟩ = some (.int .i64 1) := by have := (C.out.set 0 (.int .i64 1)).cell 0; simpa using this
  have K2 := K.out.setC ⟨CB, 0, none⟩ hle.out (.int .i64 1)
  generalize w1.setCell ⟨CB, 0, none⟩ (.int .i64 1) = W2 at *
  refine leaves_cons (f := 39) (args := #[.pointer (some ⟨F, 0, none⟩), .pointer (some ⟨CB, 0, none⟩)]) (by simp) (by simp [go_sem]) ?_
  refine (putDefer_no F CB 1 (by decide) (.pointer (some ⟨p, 0, none⟩)) rfl _ W2 A2 C2).mono ?_
  rintro e u' w'' ⟨rfl, rfl, rfl⟩
  have hEND : Ending.returned (.int .i64 1) = .returned (.int .i64 1) ∧ Keeps w w'' := ⟨rfl, K2⟩
  simpa [Leaves, settle, results, Try.results14, go_sem, C2] using hEND

set_option maxHeartbeats 16000000 in
set_option maxRecDepth 100000 in
theorem Put_arg2 (p m : Nat) (s : Sto) (now : Int) (v : Value) (x : St) (rank : Int) (w : World) (hx : StAt w v x) (hf : StFine x) (hin : StIn x) (h : SAt w p m s) (h1 : ¬ Ag.till now x.ttl < 0) (h2 : stOk x = false) :
    Calls Try.prog 14 #[.pointer (some ⟨p, 0, none⟩), .int .i64 now, v, .int .i64 rank] w fun e w' => e = .returned (.int .i64 1) ∧ Keeps w w' := by
  have hmf : ∀ (fn : Fn) (first cap : Array Value) (w : World), (Instr.makeFunc fn first cap).run Try.prog w = .ok (.func fn first cap) w := fun _ _ _ _ => rfl
  have HGC := hide (fun W (kk : Keeps w W) => GCheck_any v x W (hx.keeps kk) hf)
  have hS := hide h
  have HMD := hide (fun W (kk : Keeps w W) => isMade_any p m s W (h.keeps kk))
  obtain ⟨vd, rfl, hds⟩ := hx
  obtain ⟨va, vc, rfl⟩ := hds.len
  have A := hide (((Blk.made w #[.pointer (some ⟨p, 0, none⟩)] 25).alloc (.cells #[.string x.key.n, .int .i64 x.key.t, .int .i64 x.key.c, .slice va x.ds.length vc, .int .i64 x.ttl] 35)).alloc (.cells #[.int .i64 0] 38))
  have B := (Blk.made (w.alloc (.cells #[.pointer (some ⟨p, 0, none⟩)] 25)) #[.string x.key.n, .int .i64 x.key.t, .int .i64 x.key.c, .slice va x.ds.length vc, .int .i64 x.ttl] 35).alloc (.cells #[.int .i64 0] 38)
  have C := Blk.made ((w.alloc (.cells #[.pointer (some ⟨p, 0, none⟩)] 25)).alloc (.cells #[.string x.key.n, .int .i64 x.key.t, .int .i64 x.key.c, .slice va x.ds.length vc, .int .i64 x.ttl] 35)) #[.int .i64 0] 38
  rw [size_allocG] at B
  rw [size_allocG, size_allocG] at C
  replace B := hide B
  replace C := hide C
  have K := hide ((((Keeps.refl w).alloc (.cells #[.pointer (some ⟨p, 0, none⟩)] 25)).alloc (.cells #[.string x.key.n, .int .i64 x.key.t, .int .i64 x.key.c, .slice va x.ds.length vc, .int .i64 x.ttl] 35)).alloc (.cells #[.int .i64 0] 38))
  go_enter_defers Try.func14, Try.ntmps14
  go_upto_region 2 with fail
  generalize ((w.alloc (.cells #[.pointer (some ⟨p, 0, none⟩)] 25)).alloc (.cells #[.string x.key.n, .int .i64 x.key.t, .int .i64 x.key.c, .slice va x.ds.length vc, .int .i64 x.ttl] 35)).alloc (.cells #[.int .i64 0] 38) = W at *
  have hle : Hid (w.heap.size ≤ w.heap.size + 1 + 1) := by rw [Hid]; omega
  have hAC : Hid (w.heap.size + 1 + 1 ≠ w.heap.size ∧ w.heap.size + 1 + 1 ≠ w.heap.size + 1) := by rw [Hid]; omega
  generalize w.heap.size + 1 + 1 = CB at *
  generalize w.heap.size + 1 = BB at *
  generalize hF : w.heap.size = F at A hAC ⊢
  replace hF := hide hF
  have a0 : W.cell? ⟨F, 0, none⟩ = some (.pointer (some ⟨p, 0, none⟩)) := A.out.cell 0
  obtain ⟨b0, b1, b2, b3, b4, _⟩ := B.out.five_cells
  have c0 : W.cell? ⟨CB, 0, none⟩ = some (.int .i64 0) := C.out.cell 0
  have cf : W.frozen? ⟨CB, 0, none⟩ = false := C.out.frozen 0
  go_wp2_with fail
  refine (until_any now x.ttl _ hin.2).mono ?_
  rintro e w1 ⟨rfl, rfl⟩
  go_wp2_with fail
  refine (HMD.out _ K.out).mono ?_
  rintro e w1 ⟨rfl, rfl⟩
  go_wp2_with fail
  refine (HGC.out _ K.out).mono ?_
  rintro e w2 ⟨rfl, k1⟩
  replace A := hide (A.out.keeps k1)
  replace B := hide (B.out.keeps k1)
  replace C := hide (C.out.keeps k1)
  replace K := hide (K.out.trans k1)
  clear k1 a0 b0 b1 b2 b3 b4 c0 cf
  have a0 : w2.cell? ⟨F, 0, none⟩ = some (.pointer (some ⟨p, 0, none⟩)) := A.out.cell 0
  obtain ⟨b0, b1, b2, b3, b4, _⟩ := B.out.five_cells
  have c0 : w2.cell? ⟨CB, 0, none⟩ = some (.int .i64 0) := C.out.cell 0
  have cf : w2.frozen? ⟨CB, 0, none⟩ = false := C.out.frozen 0
  rw [h2]
  go_wp2_with fail
  have A2 : (w2.setCell ⟨CB, 0, none⟩ (.int .i64 1)).cell? ⟨F, 0, none⟩ = some (.pointer (some ⟨p, 0, none⟩)) := (A.out.other (a := ⟨CB, 0, none⟩) hAC.out.1 (.int .i64 1)).cell 0
  have C2 : (w2.setCell ⟨CB, 0, none⟩ (.int .i64 1)).cell? ⟨CB, 0, none⟩ = some (.int .i64 1) := by have := (C.out.set 0 (.int .i64 1)).cell 0; simpa using this
  have K2 := K.out.setC ⟨CB, 0, none⟩ hle.out (.int .i64 1)
  generalize w2.setCell ⟨CB, 0, none⟩ (.int .i64 1) = W2 at *
  refine leaves_cons (f := 39) (args := #[.pointer (some ⟨F, 0, none⟩), .pointer (some ⟨CB, 0, none⟩)]) (by simp) (by simp [go_sem]) ?_
  refine (putDefer_no F CB 1 (by decide) (.pointer (some ⟨p, 0, none⟩)) rfl _ W2 A2 C2).mono ?_
  rintro e u' w'' ⟨rfl, rfl, rfl⟩
  have hEND : Ending.returned (.int .i64 1) = .returned (.int .i64 1) ∧ Keeps w w'' := ⟨rfl, K2⟩
  simpa [Leaves, settle, results, Try.results14, go_sem, C2] using hEND

set_option maxHeartbeats 16000000 in
set_option maxRecDepth 100000 in
theorem Put_arg3 (p m : Nat) (s : Sto) (now : Int) (v : Value) (x : St) (rank : Int) (w : World) (hx : StAt w v x) (hf : StFine x) (hin : StIn x) (h : SAt w p m s) (h1 : ¬ Ag.till now x.ttl < 0) (h2 : stOk x = true) (h3 : Rk.isR rank = false) :
    Calls Try.prog 14 #[.pointer (some ⟨p, 0, none⟩), .int .i64 now, v, .int .i64 rank] w fun e w' => e = .returned (.int .i64 1) ∧ Keeps w w' := by
  have hmf : ∀ (fn : Fn) (first cap : Array Value) (w : World), (Instr.makeFunc fn first cap).run Try.prog w = .ok (.func fn first cap) w := fun _ _ _ _ => rfl
  have HGC := hide (fun W (kk : Keeps w W) => GCheck_any v x W (hx.keeps kk) hf)
  have hS := hide h
  have HMD := hide (fun W (kk : Keeps w W) => isMade_any p m s W (h.keeps kk))
  obtain ⟨vd, rfl, hds⟩ := hx
  obtain ⟨va, vc, rfl⟩ := hds.len
  have A := hide (((Blk.made w #[.pointer (some ⟨p, 0, none⟩)] 25).alloc (.cells #[.string x.key.n, .int .i64 x.key.t, .int .i64 x.key.c, .slice va x.ds.length vc, .int .i64 x.ttl] 35)).alloc (.cells #[.int .i64 0] 38))
  have B := (Blk.made (w.alloc (.cells #[.pointer (some ⟨p, 0, none⟩)] 25)) #[.string x.key.n, .int .i64 x.key.t, .int .i64 x.key.c, .slice va x.ds.length vc, .int .i64 x.ttl] 35).alloc (.cells #[.int .i64 0] 38)
  have C := Blk.made ((w.alloc (.cells #[.pointer (some ⟨p, 0, none⟩)] 25)).alloc (.cells #[.string x.key.n, .int .i64 x.key.t, .int .i64 x.key.c, .slice va x.ds.length vc, .int .i64 x.ttl] 35)) #[.int .i64 0] 38
  rw [size_allocG] at B
  rw [size_allocG, size_allocG] at C
  replace B := hide B
  replace C := hide C
  have K := hide ((((Keeps.refl w).alloc (.cells #[.pointer (some ⟨p, 0, none⟩)] 25)).alloc (.cells #[.string x.key.n, .int .i64 x.key.t, .int .i64 x.key.c, .slice va x.ds.length vc, .int .i64 x.ttl] 35)).alloc (.cells #[.int .i64 0] 38))
  go_enter_defers Try.func14, Try.ntmps14
  go_upto_region 2 with fail
  generalize ((w.alloc (.cells #[.pointer (some ⟨p, 0, none⟩)] 25)).alloc (.cells #[.string x.key.n, .int .i64 x.key.t, .int .i64 x.key.c, .slice va x.ds.length vc, .int .i64 x.ttl] 35)).alloc (.cells #[.int .i64 0] 38) = W at *
  have hle : Hid (w.heap.size ≤ w.heap.size + 1 + 1) := by rw [Hid]; omega
  have hAC : Hid (w.heap.size + 1 + 1 ≠ w.heap.size ∧ w.heap.size + 1 + 1 ≠ w.heap.size + 1) := by rw [Hid]; omega
  generalize w.heap.size + 1 + 1 = CB at *
  generalize w.heap.size + 1 = BB at *
  generalize hF : w.heap.size = F at A hAC ⊢
  replace hF := hide hF
  have a0 : W.cell? ⟨F, 0, none⟩ = some (.pointer (some ⟨p, 0, none⟩)) := A.out.cell 0
  obtain ⟨b0, b1, b2, b3, b4, _⟩ := B.out.five_cells
  have c0 : W.cell? ⟨CB, 0, none⟩ = some (.int .i64 0) := C.out.cell 0
  have cf : W.frozen? ⟨CB, 0, none⟩ = false := C.out.frozen 0
  go_wp2_with fail
  refine (until_any now x.ttl _ hin.2).mono ?_
  rintro e w1 ⟨rfl, rfl⟩
  go_wp2_with fail
  refine (HMD.out _ K.out).mono ?_
  rintro e w1 ⟨rfl, rfl⟩
  go_wp2_with fail
  refine (HGC.out _ K.out).mono ?_
  rintro e w2 ⟨rfl, k1⟩
  replace A := hide (A.out.keeps k1)
  replace B := hide (B.out.keeps k1)
  replace C := hide (C.out.keeps k1)
  replace K := hide (K.out.trans k1)
  clear k1 a0 b0 b1 b2 b3 b4 c0 cf
  have a0 : w2.cell? ⟨F, 0, none⟩ = some (.pointer (some ⟨p, 0, none⟩)) := A.out.cell 0
  obtain ⟨b0, b1, b2, b3, b4, _⟩ := B.out.five_cells
  have c0 : w2.cell? ⟨CB, 0, none⟩ = some (.int .i64 0) := C.out.cell 0
  have cf : w2.frozen? ⟨CB, 0, none⟩ = false := C.out.frozen 0
  rw [h2]
  go_wp2_with fail
  refine (isRank14_any rank _).mono ?_
  rintro e w3 ⟨rfl, rfl⟩
  rw [h3]
  go_wp2_with fail
  have A2 : (w3.setCell ⟨CB, 0, none⟩ (.int .i64 1)).cell? ⟨F, 0, none⟩ = some (.pointer (some ⟨p, 0, none⟩)) := (A.out.other (a := ⟨CB, 0, none⟩) hAC.out.1 (.int .i64 1)).cell 0
  have C2 : (w3.setCell ⟨CB, 0, none⟩ (.int .i64 1)).cell? ⟨CB, 0, none⟩ = some (.int .i64 1) := by have := (C.out.set 0 (.int .i64 1)).cell 0; simpa using this
  have K2 := K.out.setC ⟨CB, 0, none⟩ hle.out (.int .i64 1)
  generalize w3.setCell ⟨CB, 0, none⟩ (.int .i64 1) = W2 at *
  refine leaves_cons (f := 39) (args := #[.pointer (some ⟨F, 0, none⟩), .pointer (some ⟨CB, 0, none⟩)]) (by simp) (by simp [go_sem]) ?_
  refine (putDefer_no F CB 1 (by decide) (.pointer (some ⟨p, 0, none⟩)) rfl _ W2 A2 C2).mono ?_
  rintro e u' w'' ⟨rfl, rfl, rfl⟩
  have hEND : Ending.returned (.int .i64 1) = .returned (.int .i64 1) ∧ Keeps w w'' := ⟨rfl, K2⟩
  simpa [Leaves, settle, results, Try.results14, go_sem, C2] using hEND

set_option maxHeartbeats 16000000 in
set_option maxRecDepth 100000 in
theorem Put_time (p m : Nat) (s : Sto) (now : Int) (v : Value) (x : St) (rank : Int) (w : World) (hx : StAt w v x) (hf : StFine x) (hin : StIn x) (h : SAt w p m s) (h1 : ¬ Ag.till now x.ttl < 0) (h2 : stOk x = true) (h3 : Rk.isR rank = true) (h4 : Ag.live now (Ag.till now x.ttl) = false) :
    Calls Try.prog 14 #[.pointer (some ⟨p, 0, none⟩), .int .i64 now, v, .int .i64 rank] w fun e w' => e = .returned (.int .i64 14) ∧ Keeps w w' := by
  have hmf : ∀ (fn : Fn) (first cap : Array Value) (w : World), (Instr.makeFunc fn first cap).run Try.prog w = .ok (.func fn first cap) w := fun _ _ _ _ => rfl
  have HGC := hide (fun W (kk : Keeps w W) => GCheck_any v x W (hx.keeps kk) hf)
  have hS := hide h
  have HMD := hide (fun W (kk : Keeps w W) => isMade_any p m s W (h.keeps kk))
  obtain ⟨vd, rfl, hds⟩ := hx
  obtain ⟨va, vc, rfl⟩ := hds.len
  have A := hide (((Blk.made w #[.pointer (some ⟨p, 0, none⟩)] 25).alloc (.cells #[.string x.key.n, .int .i64 x.key.t, .int .i64 x.key.c, .slice va x.ds.length vc, .int .i64 x.ttl] 35)).alloc (.cells #[.int .i64 0] 38))
  have B := (Blk.made (w.alloc (.cells #[.pointer (some ⟨p, 0, none⟩)] 25)) #[.string x.key.n, .int .i64 x.key.t, .int .i64 x.key.c, .slice va x.ds.length vc, .int .i64 x.ttl] 35).alloc (.cells #[.int .i64 0] 38)
  have C := Blk.made ((w.alloc (.cells #[.pointer (some ⟨p, 0, none⟩)] 25)).alloc (.cells #[.string x.key.n, .int .i64 x.key.t, .int .i64 x.key.c, .slice va x.ds.length vc, .int .i64 x.ttl] 35)) #[.int .i64 0] 38
  rw [size_allocG] at B
  rw [size_allocG, size_allocG] at C
  replace B := hide B
  replace C := hide C
  have K := hide ((((Keeps.refl w).alloc (.cells #[.pointer (some ⟨p, 0, none⟩)] 25)).alloc (.cells #[.string x.key.n, .int .i64 x.key.t, .int .i64 x.key.c, .slice va x.ds.length vc, .int .i64 x.ttl] 35)).alloc (.cells #[.int .i64 0] 38))
  go_enter_defers Try.func14, Try.ntmps14
  go_upto_region 2 with fail
  generalize ((w.alloc (.cells #[.pointer (some ⟨p, 0, none⟩)] 25)).alloc (.cells #[.string x.key.n, .int .i64 x.key.t, .int .i64 x.key.c, .slice va x.ds.length vc, .int .i64 x.ttl] 35)).alloc (.cells #[.int .i64 0] 38) = W at *
  have hle : Hid (w.heap.size ≤ w.heap.size + 1 + 1) := by rw [Hid]; omega
  have hAC : Hid (w.heap.size + 1 + 1 ≠ w.heap.size ∧ w.heap.size + 1 + 1 ≠ w.heap.size + 1) := by rw [Hid]; omega
  generalize w.heap.size + 1 + 1 = CB at *
  generalize w.heap.size + 1 = BB at *
  generalize hF : w.heap.size = F at A hAC ⊢
  replace hF := hide hF
  have a0 : W.cell? ⟨F, 0, none⟩ = some (.pointer (some ⟨p, 0, none⟩)) := A.out.cell 0
  obtain ⟨b0, b1, b2, b3, b4, _⟩ := B.out.five_cells
  have c0 : W.cell? ⟨CB, 0, none⟩ = some (.int .i64 0) := C.out.cell 0
  have cf : W.frozen? ⟨CB, 0, none⟩ = false := C.out.frozen 0
  go_wp2_with fail
  refine (until_any now x.ttl _ hin.2).mono ?_
  rintro e w1 ⟨rfl, rfl⟩
  go_wp2_with fail
  refine (HMD.out _ K.out).mono ?_
  rintro e w1 ⟨rfl, rfl⟩
  go_wp2_with fail
  refine (HGC.out _ K.out).mono ?_
  rintro e w2 ⟨rfl, k1⟩
  replace A := hide (A.out.keeps k1)
  replace B := hide (B.out.keeps k1)
  replace C := hide (C.out.keeps k1)
  replace K := hide (K.out.trans k1)
  clear k1 a0 b0 b1 b2 b3 b4 c0 cf
  have a0 : w2.cell? ⟨F, 0, none⟩ = some (.pointer (some ⟨p, 0, none⟩)) := A.out.cell 0
  obtain ⟨b0, b1, b2, b3, b4, _⟩ := B.out.five_cells
  have c0 : w2.cell? ⟨CB, 0, none⟩ = some (.int .i64 0) := C.out.cell 0
  have cf : w2.frozen? ⟨CB, 0, none⟩ = false := C.out.frozen 0
  rw [h2]
  go_wp2_with fail
  refine (isRank14_any rank _).mono ?_
  rintro e w3 ⟨rfl, rfl⟩
  rw [h3]
  go_wp2_with fail
  refine (ageLive_any now _ _).mono ?_
  rintro e w4 ⟨rfl, rfl⟩
  rw [h4]
  go_wp2_with fail
  have A2 : (w4.setCell ⟨CB, 0, none⟩ (.int .i64 14)).cell? ⟨F, 0, none⟩ = some (.pointer (some ⟨p, 0, none⟩)) := (A.out.other (a := ⟨CB, 0, none⟩) hAC.out.1 (.int .i64 14)).cell 0
  have C2 : (w4.setCell ⟨CB, 0, none⟩ (.int .i64 14)).cell? ⟨CB, 0, none⟩ = some (.int .i64 14) := by have := (C.out.set 0 (.int .i64 14)).cell 0; simpa using this
  have K2 := K.out.setC ⟨CB, 0, none⟩ hle.out (.int .i64 14)
  generalize w4.setCell ⟨CB, 0, none⟩ (.int .i64 14) = W2 at *
  refine leaves_cons (f := 39) (args := #[.pointer (some ⟨F, 0, none⟩), .pointer (some ⟨CB, 0, none⟩)]) (by simp) (by simp [go_sem]) ?_
  refine (putDefer_no F CB 14 (by decide) (.pointer (some ⟨p, 0, none⟩)) rfl _ W2 A2 C2).mono ?_
  rintro e u' w'' ⟨rfl, rfl, rfl⟩
  have hEND : Ending.returned (.int .i64 14) = .returned (.int .i64 14) ∧ Keeps w w'' := ⟨rfl, K2⟩
  simpa [Leaves, settle, results, Try.results14, go_sem, C2] using hEND

set_option maxHeartbeats 16000000 in
set_option maxRecDepth 100000 in
theorem Put_rank (p m : Nat) (s : Sto) (now : Int) (v : Value) (x : St) (rank : Int) (w : World) (hx : StAt w v x) (hf : StFine x) (hin : StIn x) (h : SAt w p m s) (h1 : ¬ Ag.till now x.ttl < 0) (h2 : stOk x = true) (h3 : Rk.isR rank = true) (h4 : Ag.live now (Ag.till now x.ttl) = true) (h5 : Sto.yields s now x.key rank = false) :
    Calls Try.prog 14 #[.pointer (some ⟨p, 0, none⟩), .int .i64 now, v, .int .i64 rank] w fun e w' => e = .returned (.int .i64 10) ∧ Keeps w w' := by
  have hmf : ∀ (fn : Fn) (first cap : Array Value) (w : World), (Instr.makeFunc fn first cap).run Try.prog w = .ok (.func fn first cap) w := fun _ _ _ _ => rfl
  have HGC := hide (fun W (kk : Keeps w W) => GCheck_any v x W (hx.keeps kk) hf)
  have hS := hide h
  have HMD := hide (fun W (kk : Keeps w W) => isMade_any p m s W (h.keeps kk))
  have HYD := hide (fun W (kk : Keeps w W) => yields_any p m s now x.key rank W (h.keeps kk) hin.1)
  obtain ⟨vd, rfl, hds⟩ := hx
  obtain ⟨va, vc, rfl⟩ := hds.len
  have A := hide (((Blk.made w #[.pointer (some ⟨p, 0, none⟩)] 25).alloc (.cells #[.string x.key.n, .int .i64 x.key.t, .int .i64 x.key.c, .slice va x.ds.length vc, .int .i64 x.ttl] 35)).alloc (.cells #[.int .i64 0] 38))
  have B := (Blk.made (w.alloc (.cells #[.pointer (some ⟨p, 0, none⟩)] 25)) #[.string x.key.n, .int .i64 x.key.t, .int .i64 x.key.c, .slice va x.ds.length vc, .int .i64 x.ttl] 35).alloc (.cells #[.int .i64 0] 38)
  have C := Blk.made ((w.alloc (.cells #[.pointer (some ⟨p, 0, none⟩)] 25)).alloc (.cells #[.string x.key.n, .int .i64 x.key.t, .int .i64 x.key.c, .slice va x.ds.length vc, .int .i64 x.ttl] 35)) #[.int .i64 0] 38
  rw [size_allocG] at B
  rw [size_allocG, size_allocG] at C
  replace B := hide B
  replace C := hide C
  have K := hide ((((Keeps.refl w).alloc (.cells #[.pointer (some ⟨p, 0, none⟩)] 25)).alloc (.cells #[.string x.key.n, .int .i64 x.key.t, .int .i64 x.key.c, .slice va x.ds.length vc, .int .i64 x.ttl] 35)).alloc (.cells #[.int .i64 0] 38))
  go_enter_defers Try.func14, Try.ntmps14
  go_upto_region 2 with fail
  generalize ((w.alloc (.cells #[.pointer (some ⟨p, 0, none⟩)] 25)).alloc (.cells #[.string x.key.n, .int .i64 x.key.t, .int .i64 x.key.c, .slice va x.ds.length vc, .int .i64 x.ttl] 35)).alloc (.cells #[.int .i64 0] 38) = W at *
  have hle : Hid (w.heap.size ≤ w.heap.size + 1 + 1) := by rw [Hid]; omega
  have hAC : Hid (w.heap.size + 1 + 1 ≠ w.heap.size ∧ w.heap.size + 1 + 1 ≠ w.heap.size + 1) := by rw [Hid]; omega
  generalize w.heap.size + 1 + 1 = CB at *
  generalize w.heap.size + 1 = BB at *
  generalize hF : w.heap.size = F at A hAC ⊢
  replace hF := hide hF
  have a0 : W.cell? ⟨F, 0, none⟩ = some (.pointer (some ⟨p, 0, none⟩)) := A.out.cell 0
  obtain ⟨b0, b1, b2, b3, b4, _⟩ := B.out.five_cells
  have c0 : W.cell? ⟨CB, 0, none⟩ = some (.int .i64 0) := C.out.cell 0
  have cf : W.frozen? ⟨CB, 0, none⟩ = false := C.out.frozen 0
  go_wp2_with fail
  refine (until_any now x.ttl _ hin.2).mono ?_
  rintro e w1 ⟨rfl, rfl⟩
  go_wp2_with fail
  refine (HMD.out _ K.out).mono ?_
  rintro e w1 ⟨rfl, rfl⟩
  go_wp2_with fail
  refine (HGC.out _ K.out).mono ?_
  rintro e w2 ⟨rfl, k1⟩
  replace A := hide (A.out.keeps k1)
  replace B := hide (B.out.keeps k1)
  replace C := hide (C.out.keeps k1)
  replace K := hide (K.out.trans k1)
  clear k1 a0 b0 b1 b2 b3 b4 c0 cf
  have a0 : w2.cell? ⟨F, 0, none⟩ = some (.pointer (some ⟨p, 0, none⟩)) := A.out.cell 0
  obtain ⟨b0, b1, b2, b3, b4, _⟩ := B.out.five_cells
  have c0 : w2.cell? ⟨CB, 0, none⟩ = some (.int .i64 0) := C.out.cell 0
  have cf : w2.frozen? ⟨CB, 0, none⟩ = false := C.out.frozen 0
  rw [h2]
  go_wp2_with fail
  refine (isRank14_any rank _).mono ?_
  rintro e w3 ⟨rfl, rfl⟩
  rw [h3]
  go_wp2_with fail
  refine (ageLive_any now _ _).mono ?_
  rintro e w4 ⟨rfl, rfl⟩
  rw [h4]
  go_wp2_with fail
  refine (HYD.out _ K.out).mono ?_
  rintro e w5 ⟨rfl, k1⟩
  replace A := hide (A.out.keeps k1)
  replace B := hide (B.out.keeps k1)
  replace C := hide (C.out.keeps k1)
  replace K := hide (K.out.trans k1)
  clear k1 a0 b0 b1 b2 b3 b4 c0 cf
  have a0 : w5.cell? ⟨F, 0, none⟩ = some (.pointer (some ⟨p, 0, none⟩)) := A.out.cell 0
  obtain ⟨b0, b1, b2, b3, b4, _⟩ := B.out.five_cells
  have c0 : w5.cell? ⟨CB, 0, none⟩ = some (.int .i64 0) := C.out.cell 0
  have cf : w5.frozen? ⟨CB, 0, none⟩ = false := C.out.frozen 0
  rw [h5]
  go_wp2_with fail
  have A2 : (w5.setCell ⟨CB, 0, none⟩ (.int .i64 10)).cell? ⟨F, 0, none⟩ = some (.pointer (some ⟨p, 0, none⟩)) := (A.out.other (a := ⟨CB, 0, none⟩) hAC.out.1 (.int .i64 10)).cell 0
  have C2 : (w5.setCell ⟨CB, 0, none⟩ (.int .i64 10)).cell? ⟨CB, 0, none⟩ = some (.int .i64 10) := by have := (C.out.set 0 (.int .i64 10)).cell 0; simpa using this
  have K2 := K.out.setC ⟨CB, 0, none⟩ hle.out (.int .i64 10)
  generalize w5.setCell ⟨CB, 0, none⟩ (.int .i64 10) = W2 at *
  refine leaves_cons (f := 39) (args := #[.pointer (some ⟨F, 0, none⟩), .pointer (some ⟨CB, 0, none⟩)]) (by simp) (by simp [go_sem]) ?_
  refine (putDefer_no F CB 10 (by decide) (.pointer (some ⟨p, 0, none⟩)) rfl _ W2 A2 C2).mono ?_
  rintro e u' w'' ⟨rfl, rfl, rfl⟩
  have hEND : Ending.returned (.int .i64 10) = .returned (.int .i64 10) ∧ Keeps w w'' := ⟨rfl, K2⟩
  simpa [Leaves, settle, results, Try.results14, go_sem, C2] using hEND

end Go.Proofs.Ytgfaoaabnjblhaa
