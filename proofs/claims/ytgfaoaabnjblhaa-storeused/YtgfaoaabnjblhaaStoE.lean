/- A store out of which something is dropped. No condition but lengths. -/
import Derived.Test.YtgfaoaabnjblhaaStoD
namespace Go.Proofs.Ytgfaoaabnjblhaa
open Go.RowKit

theorem fok_some {w : World} {p m : Nat} {oi : Option It} {ov : Option Value} (h : FOk w p m oi ov) : ov.isSome = oi.isSome := by
  cases oi with
  | none => rw [show ov = none from h]; rfl
  | some i => obtain ⟨vd, h1, _⟩ := h; rw [h1]; rfl
theorem fok_val {w : World} {p m : Nat} {oi : Option It} {ov : Option Value} (h : FOk w p m oi ov) : ∃ n t c a l cp ttl u rk, ov.getD (itV noIt (.slice none 0 0)) = .agg #[.string n, .int .i64 t, .int .i64 c, .slice a l cp, .int .i64 ttl, .int .i64 u, .int .i64 rk] := by
  cases oi with
  | none => rw [show ov = none from h]; exact ⟨_, _, _, _, _, _, _, _, _, rfl⟩
  | some i =>
    obtain ⟨vd, h1, h2, _⟩ := h
    obtain ⟨a, c, rfl⟩ := h2.len
    rw [h1]
    exact ⟨_, _, _, _, _, _, _, _, _, rfl⟩
def DropEnd (w : World) (p m : Nat) (b : Bool) (s' : Sto) (e : Ending) (w' : World) : Prop := e = .returned (.bool b) ∧ SAt w' p m s' ∧ KB p m w w'

set_option maxHeartbeats 8000000 in
set_option maxRecDepth 100000 in
theorem Drop_nil (q : Qn) (w : World) :
    Calls Try.prog 22 #[.pointer none, .agg #[.string q.n, .int .i64 q.t, .int .i64 q.c]] w fun e w' => e = .returned (.bool false) ∧ Keeps w w' := by
  have hmf : ∀ (fn : Fn) (first cap : Array Value) (w : World), (Instr.makeFunc fn first cap).run Try.prog w = .ok (.func fn first cap) w := fun _ _ _ _ => rfl
  have A := hide (((Blk.made w #[.pointer none] 25).alloc (.cells #[.string q.n, .int .i64 q.t, .int .i64 q.c] 32)).alloc (.cells #[.bool false] 4))
  have C := Blk.made ((w.alloc (.cells #[.pointer none] 25)).alloc (.cells #[.string q.n, .int .i64 q.t, .int .i64 q.c] 32)) #[.bool false] 4
  rw [size_allocG, size_allocG] at C
  replace C := hide C
  have K := hide ((((Keeps.refl w).alloc (.cells #[.pointer none] 25)).alloc (.cells #[.string q.n, .int .i64 q.t, .int .i64 q.c] 32)).alloc (.cells #[.bool false] 4))
  go_enter_defers Try.func22, Try.ntmps22
  go_upto_region 2 with fail
  generalize ((w.alloc (.cells #[.pointer none] 25)).alloc (.cells #[.string q.n, .int .i64 q.t, .int .i64 q.c] 32)).alloc (.cells #[.bool false] 4) = W at *
  have hle : Hid (w.heap.size ≤ w.heap.size + 1 + 1) := by rw [Hid]; omega
  have hAC : Hid (w.heap.size + 1 + 1 ≠ w.heap.size) := by rw [Hid]; omega
  generalize w.heap.size + 1 + 1 = CB at *
  generalize hF : w.heap.size = F at A hAC ⊢
  replace hF := hide hF
  have a0 := A.out.cell 0
  have c0 := C.out.cell 0
  have cf := C.out.frozen 0
  go_wp2_with fail
  refine (isMade_nil _).mono ?_
  rintro e w1 ⟨rfl, rfl⟩
  go_wp2_with fail
  have A2 := (A.out.other (a := ⟨CB, 0, none⟩) hAC.out (.bool false)).cell 0
  have C2 := (C.out.set 0 (.bool false)).cell 0
  have K2 := K.out.setC ⟨CB, 0, none⟩ hle.out (.bool false)
  generalize w1.setCell ⟨CB, 0, none⟩ (.bool false) = W2 at *
  refine leaves_cons (f := 50) (args := #[.pointer (some ⟨F, 0, none⟩), .pointer (some ⟨CB, 0, none⟩)]) (by simp) (by simp [go_sem]) ?_
  refine (dropDefer_no F CB (.pointer none) rfl _ W2 A2 C2).mono ?_
  rintro e u' w'' ⟨rfl, rfl, rfl⟩
  simp at C2
  simpa [Leaves, settle, results, Try.results22, go_sem, C2] using K2

set_option maxHeartbeats 16000000 in
set_option maxRecDepth 100000 in
theorem Drop_none (p m : Nat) (s : Sto) (q : Qn) (w : World) (h : SAt w p m s) (hq : QnFine q) (hb : Sto.has s q = false) :
    Calls Try.prog 22 #[.pointer (some ⟨p, 0, none⟩), .agg #[.string q.n, .int .i64 q.t, .int .i64 q.c]] w fun e w' => DropEnd w p m false s e w' := by
  have hmf : ∀ (fn : Fn) (first cap : Array Value) (w : World), (Instr.makeFunc fn first cap).run Try.prog w = .ok (.func fn first cap) w := fun _ _ _ _ => rfl
  have hS := hide h
  have hplt := h.lt.1
  have A := hide (((Blk.made w #[.pointer (some ⟨p, 0, none⟩)] 25).alloc (.cells #[.string q.n, .int .i64 q.t, .int .i64 q.c] 32)).alloc (.cells #[.bool false] 4))
  have B := (Blk.made (w.alloc (.cells #[.pointer (some ⟨p, 0, none⟩)] 25)) #[.string q.n, .int .i64 q.t, .int .i64 q.c] 32).alloc (.cells #[.bool false] 4)
  have C := Blk.made ((w.alloc (.cells #[.pointer (some ⟨p, 0, none⟩)] 25)).alloc (.cells #[.string q.n, .int .i64 q.t, .int .i64 q.c] 32)) #[.bool false] 4
  rw [size_allocG] at B
  rw [size_allocG, size_allocG] at C
  replace B := hide B
  replace C := hide C
  have K := hide ((((Keeps.refl w).alloc (.cells #[.pointer (some ⟨p, 0, none⟩)] 25)).alloc (.cells #[.string q.n, .int .i64 q.t, .int .i64 q.c] 32)).alloc (.cells #[.bool false] 4))
  go_enter_defers Try.func22, Try.ntmps22
  go_upto_region 2 with fail
  generalize ((w.alloc (.cells #[.pointer (some ⟨p, 0, none⟩)] 25)).alloc (.cells #[.string q.n, .int .i64 q.t, .int .i64 q.c] 32)).alloc (.cells #[.bool false] 4) = W at *
  have hle : Hid (w.heap.size ≤ w.heap.size + 1 + 1) := by rw [Hid]; omega
  have hAC : Hid (w.heap.size + 1 + 1 ≠ w.heap.size) := by rw [Hid]; omega
  generalize w.heap.size + 1 + 1 = CB at *
  generalize w.heap.size + 1 = BB at *
  generalize hF : w.heap.size = F at A hAC ⊢
  replace hF := hide hF
  have a0 := A.out.cell 0
  have c0 := C.out.cell 0
  have cf := C.out.frozen 0
  have hSW := hide (hS.out.keeps K.out)
  go_wp2_with fail
  refine (isMade_any p m s _ hSW.out).mono ?_
  rintro e w1 ⟨rfl, rfl⟩
  obtain ⟨h1, h2, v, n, f, h3, h4, h5, h6, h7, h8⟩ := hSW.out
  obtain ⟨⟨_, m1, _, _⟩, _, _⟩ := h3.four_cells
  obtain ⟨⟨b0, b1, b2⟩, _, _⟩ := B.out.three
  obtain ⟨xn, xt, xc, xa, xl, xp, xttl, xu, xr, hval⟩ := fok_val (h8 q)
  have l1 := (h6.keeps (Keeps.refl w1).drew).look_ok lawQ14 (t := 71) Try.underlying71 zeroItem q (keyQ q hq.1 hq.2.1 hq.2.2)
  rw [hval, fok_some (h8 q), show (Sto.find s.items q).isSome = false from hb] at l1
  unfold qnV at l1
  go_upto_region 4 with fail
  go_region
  all_goals
    have A2 := hide ((A.out.other (a := ⟨CB, 0, none⟩) hAC.out (.bool false)).drew)
    have C2 := hide (show Blk (w1.setCell ⟨CB, 0, none⟩ (.bool false)).drew CB #[.bool false] 4 by have := (C.out.set 0 (.bool false)).drew; simpa using this)
    have K2 := hide ((K.out.setC ⟨CB, 0, none⟩ hle.out (.bool false)).drew)
    generalize (w1.setCell ⟨CB, 0, none⟩ (.bool false)).drew = W2 at *
    clear a0 c0 cf m1 b0 b1 b2 l1
    have c0 : W2.cell? ⟨CB, 0, none⟩ = some (.bool false) := C2.out.cell 0
    have cf := C2.out.frozen 0
    go_wp2_with fail
    have A3 := (A2.out.other (a := ⟨CB, 0, none⟩) hAC.out (.bool false)).cell 0
    have C3 := (C2.out.set 0 (.bool false)).cell 0
    have K3 := K2.out.setC ⟨CB, 0, none⟩ hle.out (.bool false)
    generalize W2.setCell ⟨CB, 0, none⟩ (.bool false) = W3 at *
    refine leaves_cons (f := 50) (args := #[.pointer (some ⟨F, 0, none⟩), .pointer (some ⟨CB, 0, none⟩)]) (by simp) (by simp [go_sem]) ?_
    refine (dropDefer_no F CB (.pointer (some ⟨p, 0, none⟩)) rfl _ W3 A3 C3).mono ?_
    rintro e u' w'' ⟨rfl, rfl, rfl⟩
    simp at C3
    have hEND : DropEnd w p m false s (.returned (.bool false)) w'' := ⟨rfl, hS.out.keeps K3, KB.of K3⟩
    simpa [Leaves, settle, results, Try.results22, go_sem, C3] using hEND

theorem dropped_ok {s : Sto} {q : Qn} (h : StoOk s) : StoOk ⟨s.room, Sto.without s.items q, s.changes + 1⟩ := by
  refine ⟨h.room, ?_, ?_, fun i hi => h.fine i (List.mem_filter.1 hi).1, ?_⟩
  · have := h.len
    have := Sto.without_len s.items q
    show ((Sto.without s.items q).length : Int) ≤ s.room
    omega
  · show (Sto.keysL (Sto.without s.items q)).Nodup
    rw [Sto.without_keys]
    exact Sto.nodup_drop h.nodup q
  · have := h.count
    show 0 ≤ s.changes + 1
    omega
theorem mapTurned_other {w w' : World} {m k : Nat} (h : w.mapTurned w' m) (hk : k < w.heap.size) (hne : k ≠ m) : w'.heap[k]? = w.heap[k]? := (h.grown).block k hk (by simp; exact hne)
theorem Blk.turned {w w' : World} {m G : Nat} {cs : Array Value} {ty : TypeId} (h : Blk w G cs ty) (t : w.mapTurned w' m) (hne : G ≠ m) : Blk w' G cs ty := (mapTurned_other t h.lt hne).trans h

set_option maxHeartbeats 16000000 in
set_option maxRecDepth 100000 in
theorem Drop_some (p m : Nat) (s : Sto) (q : Qn) (w : World) (h : SAt w p m s) (hq : QnFine q) (hb : Sto.has s q = true) (hch : s.changes ≤ 1099511627776) :
    Calls Try.prog 22 #[.pointer (some ⟨p, 0, none⟩), .agg #[.string q.n, .int .i64 q.t, .int .i64 q.c]] w fun e w' => DropEnd w p m true ⟨s.room, Sto.without s.items q, s.changes + 1⟩ e w' := by
  have hmf : ∀ (fn : Fn) (first cap : Array Value) (w : World), (Instr.makeFunc fn first cap).run Try.prog w = .ok (.func fn first cap) w := fun _ _ _ _ => rfl
  have hS := hide h
  have hplt := h.lt.1
  have hmlt := h.lt.2
  have A := hide (((Blk.made w #[.pointer (some ⟨p, 0, none⟩)] 25).alloc (.cells #[.string q.n, .int .i64 q.t, .int .i64 q.c] 32)).alloc (.cells #[.bool false] 4))
  have B := (Blk.made (w.alloc (.cells #[.pointer (some ⟨p, 0, none⟩)] 25)) #[.string q.n, .int .i64 q.t, .int .i64 q.c] 32).alloc (.cells #[.bool false] 4)
  have C := Blk.made ((w.alloc (.cells #[.pointer (some ⟨p, 0, none⟩)] 25)).alloc (.cells #[.string q.n, .int .i64 q.t, .int .i64 q.c] 32)) #[.bool false] 4
  rw [size_allocG] at B
  rw [size_allocG, size_allocG] at C
  replace B := hide B
  replace C := hide C
  have K := hide ((((Keeps.refl w).alloc (.cells #[.pointer (some ⟨p, 0, none⟩)] 25)).alloc (.cells #[.string q.n, .int .i64 q.t, .int .i64 q.c] 32)).alloc (.cells #[.bool false] 4))
  go_enter_defers Try.func22, Try.ntmps22
  go_upto_region 2 with fail
  generalize ((w.alloc (.cells #[.pointer (some ⟨p, 0, none⟩)] 25)).alloc (.cells #[.string q.n, .int .i64 q.t, .int .i64 q.c] 32)).alloc (.cells #[.bool false] 4) = W at *
  have hle : Hid (w.heap.size ≤ w.heap.size + 1 + 1) := by rw [Hid]; omega
  have hAC : Hid (w.heap.size + 1 + 1 ≠ w.heap.size ∧ w.heap.size + 1 + 1 ≠ w.heap.size + 1) := by rw [Hid]; omega
  have hpX : Hid (p ≠ w.heap.size ∧ p ≠ w.heap.size + 1 ∧ p ≠ w.heap.size + 1 + 1 ∧ m ≠ w.heap.size ∧ m ≠ w.heap.size + 1 ∧ m ≠ w.heap.size + 1 + 1) := by rw [Hid]; omega
  generalize w.heap.size + 1 + 1 = CB at *
  generalize w.heap.size + 1 = BB at *
  generalize hF : w.heap.size = F at A hAC hpX ⊢
  replace hF := hide hF
  have a0 := A.out.cell 0
  have c0 := C.out.cell 0
  have cf := C.out.frozen 0
  have hSW := hide (hS.out.keeps K.out)
  go_wp2_with fail
  refine (isMade_any p m s _ hSW.out).mono ?_
  rintro e w1 ⟨rfl, rfl⟩
  obtain ⟨h1, h2, v, n, f, h3, h4, h5, h6, h7, h8⟩ := hS.out
  obtain ⟨⟨_, m1, _, _⟩, _, _⟩ := (h3.keeps K.out).four_cells
  obtain ⟨⟨b0, b1, b2⟩, _, _⟩ := B.out.three
  obtain ⟨xn, xt, xc, xa, xl, xp, xttl, xu, xr, hval⟩ := fok_val (h8 q)
  have l1 := (h6.keeps K.out.drew).look_ok lawQ14 (t := 71) Try.underlying71 zeroItem q (keyQ q hq.1 hq.2.1 hq.2.2)
  rw [hval, fok_some (h8 q), show (Sto.find s.items q).isSome = true from hb] at l1
  unfold qnV at l1
  have S0 := hide (h3.keeps K.out)
  have M0 := hide (h6.keeps K.out)
  have hks := hide (keys_small h2)
  have HV := hide h4
  have hap := hide h5
  have HF8 := hide h8
  clear h3 h4 h6 h8 h5
  go_upto_region 4 with fail
  go_region
  all_goals
    have A2 := hide ((A.out.other (a := ⟨CB, 0, none⟩) hAC.out.1 (.bool true)).drew)
    have B2 := hide ((B.out.other (a := ⟨CB, 0, none⟩) hAC.out.2 (.bool true)).drew)
    have S2 := hide ((S0.out.other (a := ⟨CB, 0, none⟩) (fun e => hpX.out.2.2.1 e.symm) (.bool true)).drew)
    have M2 := hide (M0.out.same (w' := (w1.setCell ⟨CB, 0, none⟩ (.bool true)).drew) (Below.heap_setCell w1 _ _ _ hpX.out.2.2.2.2.2))
    have C2 := hide (show Blk (w1.setCell ⟨CB, 0, none⟩ (.bool true)).drew CB #[.bool true] 4 by have := (C.out.set 0 (.bool true)).drew; simpa using this)
    have K2 := hide ((K.out.setC ⟨CB, 0, none⟩ hle.out (.bool true)).drew)
    generalize (w1.setCell ⟨CB, 0, none⟩ (.bool true)).drew = W2 at *
    clear a0 c0 cf m1 b0 b1 b2 l1 A B C S0 M0
    have c0 : W2.cell? ⟨CB, 0, none⟩ = some (.bool true) := C2.out.cell 0
    go_upto_region 6 with fail
    have a0 : W2.cell? ⟨F, 0, none⟩ = some (.pointer (some ⟨p, 0, none⟩)) := A2.out.cell 0
    obtain ⟨⟨b0, b1, b2⟩, _, _⟩ := B2.out.three
    obtain ⟨⟨_, m1, _, _⟩, _, _⟩ := S2.out.four_cells
    have MD := hide (M2.out.keeps (Keeps.refl W2).drew)
    have T : W2.drew.cell? ⟨F, 0, none⟩ = some (.pointer (some ⟨p, 0, none⟩)) ∧ W2.drew.cell? ⟨BB, 0, none⟩ = some (.string q.n) ∧ W2.drew.cell? ⟨BB, 1, none⟩ = some (.int .i64 q.t) ∧ W2.drew.cell? ⟨BB, 2, none⟩ = some (.int .i64 q.c) ∧ W2.drew.cell? ⟨p, 1, none⟩ = some (.map (some m)) := ⟨a0, b0, b1, b2, m1⟩
    have HTT : Hid (∀ W3, W2.drew.mapTurned W3 m → W3.cell? ⟨F, 0, none⟩ = some (.pointer (some ⟨p, 0, none⟩)) ∧ W3.cell? ⟨BB, 0, none⟩ = some (.string q.n) ∧ W3.cell? ⟨BB, 1, none⟩ = some (.int .i64 q.t) ∧ W3.cell? ⟨BB, 2, none⟩ = some (.int .i64 q.c) ∧ W3.cell? ⟨p, 1, none⟩ = some (.map (some m))) := fun W3 t3 =>
      ⟨(A2.out.drew.turned t3 hpX.out.2.2.2.1.symm).cell 0, (B2.out.drew.turned t3 hpX.out.2.2.2.2.1.symm).cell 0, (B2.out.drew.turned t3 hpX.out.2.2.2.2.1.symm).cell 1, (B2.out.drew.turned t3 hpX.out.2.2.2.2.1.symm).cell 2, (S2.out.drew.turned t3 h1).cell 1⟩
    clear a0 b0 b1 b2 m1
    go_region_held3 (fun w' => w'.cell? ⟨F, 0, none⟩ = some (.pointer (some ⟨p, 0, none⟩)) ∧ w'.cell? ⟨BB, 0, none⟩ = some (.string q.n) ∧ w'.cell? ⟨BB, 1, none⟩ = some (.int .i64 q.t) ∧ w'.cell? ⟨BB, 2, none⟩ = some (.int .i64 q.c) ∧ w'.cell? ⟨p, 1, none⟩ = some (.map (some m))) (exact T) ((refine step_delV rfl _ _ rfl rfl MD.out q hq rfl ?_; intro W3 M3 t3; replace T := HTT.out W3 t3))
    have A3 := hide (A2.out.drew.turned t3 hpX.out.2.2.2.1.symm)
    have B3 := hide (B2.out.drew.turned t3 hpX.out.2.2.2.2.1.symm)
    have C3 := hide (C2.out.drew.turned t3 hpX.out.2.2.2.2.2.symm)
    have S3 := hide (S2.out.drew.turned t3 h1)
    have KB3 := hide ((KB.of (p := p) (m := m) K2.out.drew).trans (KB.turned t3))
    have hp3 : Hid (p < W3.heap.size) := S3.out.lt
    have hm3 : Hid (m < W3.heap.size) := M3.lt
    have hC3 : Hid (CB < W3.heap.size) := C3.out.lt
    have MM3 := hide M3
    clear A2 B2 C2 S2 M2 MD K2 HTT T t3 c0 M3
    have HD := hide (fun W (kk : KB p m w W) => Drop_q v s.keys q W (HV.out.kb hap.out kk) (by have := hks.out; omega))
    have T : W3.drew.cell? ⟨F, 0, none⟩ = some (.pointer (some ⟨p, 0, none⟩)) ∧ W3.drew.cell? ⟨BB, 0, none⟩ = some (.string q.n) ∧ W3.drew.cell? ⟨BB, 1, none⟩ = some (.int .i64 q.t) ∧ W3.drew.cell? ⟨BB, 2, none⟩ = some (.int .i64 q.c) := ⟨A3.out.cell 0, B3.out.cell 0, B3.out.cell 1, B3.out.cell 2⟩
    have n2 : W3.drew.cell? ⟨p, 2, none⟩ = some v := S3.out.cell 2
    have HTT : Hid (∀ w5, Keeps W3.drew w5 → w5.cell? ⟨F, 0, none⟩ = some (.pointer (some ⟨p, 0, none⟩)) ∧ w5.cell? ⟨BB, 0, none⟩ = some (.string q.n) ∧ w5.cell? ⟨BB, 1, none⟩ = some (.int .i64 q.t) ∧ w5.cell? ⟨BB, 2, none⟩ = some (.int .i64 q.c)) := fun w5 k => ⟨(A3.out.drew.keeps k).cell 0, (B3.out.drew.keeps k).cell 0, (B3.out.drew.keeps k).cell 1, (B3.out.drew.keeps k).cell 2⟩
    have HTS : Hid (∀ w5, Keeps W3.drew w5 → ∀ u, (w5.setCell ⟨p, 2, none⟩ u).cell? ⟨F, 0, none⟩ = some (.pointer (some ⟨p, 0, none⟩)) ∧ (w5.setCell ⟨p, 2, none⟩ u).cell? ⟨BB, 0, none⟩ = some (.string q.n) ∧ (w5.setCell ⟨p, 2, none⟩ u).cell? ⟨BB, 1, none⟩ = some (.int .i64 q.t) ∧ (w5.setCell ⟨p, 2, none⟩ u).cell? ⟨BB, 2, none⟩ = some (.int .i64 q.c)) := fun w5 k u =>
      ⟨((A3.out.drew.keeps k).other (a := ⟨p, 2, none⟩) hpX.out.1 u).cell 0, ((B3.out.drew.keeps k).other (a := ⟨p, 2, none⟩) hpX.out.2.1 u).cell 0, ((B3.out.drew.keeps k).other (a := ⟨p, 2, none⟩) hpX.out.2.1 u).cell 1, ((B3.out.drew.keeps k).other (a := ⟨p, 2, none⟩) hpX.out.2.1 u).cell 2⟩
    have HP2 : Hid (∀ w5, Keeps W3.drew w5 → w5.cell? ⟨p, 2, none⟩ = some v ∧ w5.frozen? ⟨p, 2, none⟩ = false) := fun w5 k => ⟨(S3.out.drew.keeps k).cell 2, (S3.out.drew.keeps k).frozen 2⟩
    go_upto_region 7 with fail
    obtain ⟨a0, b0, b1, b2⟩ := T
    refine wp_region_noPanic ?_
    go_region_with (go_at_call 51; refine (HD.out _ (KB3.out.drew)).mono ?_; intro e w5 hE; obtain ⟨vt, rfl, ot, k5⟩ := hE; obtain ⟨za, zc, hz⟩ := ot.form; rw [List.length_map] at hz; subst hz; replace ot := hide ot; replace k5 := hide k5; obtain ⟨p2, p2f⟩ := HP2.out _ k5.out; have T5 := HTT.out _ k5.out)
    all_goals
      refine NoPanic.normal ?_
      have A5 := hide ((A3.out.drew.keeps k5.out).other (a := ⟨p, 2, none⟩) hpX.out.1 (.slice za (Lr.drop s.keys q).length zc))
      have C5 := hide ((C3.out.drew.keeps k5.out).other (a := ⟨p, 2, none⟩) hpX.out.2.2.1 (.slice za (Lr.drop s.keys q).length zc))
      have S5 := hide (show Blk (w5.setCell ⟨p, 2, none⟩ (.slice za (Lr.drop s.keys q).length zc)) p #[.int .i64 s.room, .map (some m), .slice za (Lr.drop s.keys q).length zc, .int .i64 s.changes] 73 by have := (S3.out.drew.keeps k5.out).set 2 (.slice za (Lr.drop s.keys q).length zc); simpa using this)
      have O5 := hide (ot.out.setOther (a := ⟨p, 2, none⟩) hp3.out (.slice za (Lr.drop s.keys q).length zc))
      have KB5 := hide ((KB3.out.drew.trans (KB.of k5.out)).trans (KB.setP w5 2 (.slice za (Lr.drop s.keys q).length zc)))
      have M5 := hide (show (w5.setCell ⟨p, 2, none⟩ (.slice za (Lr.drop s.keys q).length zc)).heap[m]? = W3.heap[m]? from (Below.heap_setCell _ _ _ _ (fun e => h1 e.symm)).trans (k5.out.block m hm3.out))
      have AP := hide (ot.out.apart hp3.out hm3.out)
      generalize w5.setCell ⟨p, 2, none⟩ (.slice za (Lr.drop s.keys q).length zc) = W5 at *
      clear A3 B3 C3 S3 KB3 HD n2 HTT HTS HP2 a0 b0 b1 b2 p2 p2f T5 ot k5
      have c0 : W5.cell? ⟨CB, 0, none⟩ = some (.bool true) := C5.out.cell 0
      have cf : W5.frozen? ⟨CB, 0, none⟩ = false := C5.out.frozen 0
      go_wp2_with fail
      have A6 := hide (A5.out.other (a := ⟨CB, 0, none⟩) hAC.out.1 (.bool true))
      have C6 := hide (show Blk (W5.setCell ⟨CB, 0, none⟩ (.bool true)) CB #[.bool true] 4 by have := C5.out.set 0 (.bool true); simpa using this)
      have S6 := hide (S5.out.other (a := ⟨CB, 0, none⟩) (fun e => hpX.out.2.2.1 e.symm) (.bool true))
      have O6 := hide (O5.out.setOther (a := ⟨CB, 0, none⟩) hC3.out (.bool true))
      have KB6 := hide (KB5.out.setNew (x := ⟨CB, 0, none⟩) hle.out (.bool true))
      have M6 := hide ((Below.heap_setCell W5 ⟨CB, 0, none⟩ (.bool true) m hpX.out.2.2.2.2.2).trans M5.out)
      generalize W5.setCell ⟨CB, 0, none⟩ (.bool true) = W6 at *
      refine leaves_cons (f := 50) (args := #[.pointer (some ⟨F, 0, none⟩), .pointer (some ⟨CB, 0, none⟩)]) (by simp) (by simp [go_sem]) ?_
      refine (dropDefer_yes F CB p s.changes _ W6 (A6.out.cell 0) (C6.out.cell 0) (S6.out.cell 3) (S6.out.frozen 3) ⟨h2.count, hch⟩).mono ?_
      rintro e u' w'' ⟨rfl, rfl, rfl⟩
      have C7 : (W6.setCell ⟨p, 3, none⟩ (.int .i64 (s.changes + 1))).cell? ⟨CB, 0, none⟩ = some (.bool true) := (C6.out.other (a := ⟨p, 3, none⟩) hpX.out.2.2.1 (.int .i64 (s.changes + 1))).cell 0
      have S7 : Blk (W6.setCell ⟨p, 3, none⟩ (.int .i64 (s.changes + 1))) p #[.int .i64 s.room, .map (some m), .slice za (Lr.drop s.keys q).length zc, .int .i64 (s.changes + 1)] 73 := by
        have := S6.out.set 3 (.int .i64 (s.changes + 1))
        simpa using this
      have hEND : DropEnd w p m true ⟨s.room, Sto.without s.items q, s.changes + 1⟩ (.returned (.bool true)) (W6.setCell ⟨p, 3, none⟩ (.int .i64 (s.changes + 1))) := by
        have KB7 : KB p m w (W6.setCell ⟨p, 3, none⟩ (.int .i64 (s.changes + 1))) := KB6.out.trans (KB.setP W6 3 _)
        refine ⟨rfl, ⟨h1, dropped_ok h2, _, n, _, S7, ?_, AP.out, MM3.out.same ((Below.heap_setCell _ _ _ _ (fun e => h1 e.symm)).trans M6.out), ?_, fun k => ?_⟩, KB7⟩
        · rw [show Sto.keys ⟨s.room, Sto.without s.items q, s.changes + 1⟩ = Lr.drop s.keys q from Sto.without_keys _ _]
          exact (O6.out.setOther (a := ⟨p, 3, none⟩) hp3.out _).read
        · show (n : Int) ≤ s.changes + 1
          omega
        · show FOk _ p m (Sto.find (Sto.without s.items q) k) _
          rw [Sto.find_without]
          by_cases hk : k = q
          · rw [if_pos hk, if_pos hk]; rfl
          · rw [if_neg hk, if_neg hk]; exact (HF8.out k).kb KB7
      simpa [Leaves, settle, results, Try.results22, go_sem, C7] using hEND
end Go.Proofs.Ytgfaoaabnjblhaa
