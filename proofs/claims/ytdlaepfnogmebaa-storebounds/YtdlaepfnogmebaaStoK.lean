/- A store out of which something is dropped; a change is counted as the call ends. No condition but lengths. A store out of which something is dropped. No condition but lengths. A store into which something is laid. No condition but lengths. -/
import Derived.Test.YtdlaepfnogmebaaStoG
import Derived.Deep.RegionLaw
import Derived.BigQuiet
namespace Go.Proofs.Ytdlaepfnogmebaa
open Go.RowKit
variable {XG : Nat → Prop}

set_option maxHeartbeats 4000000 in
set_option maxRecDepth 100000 in
theorem count_no (v : Value) (w : World) : Calls Try.prog 69 #[v, .bool false] w fun e w' => e = .returned (.tuple #[]) ∧ w' = w := by
  go_enter Try.func69, Try.ntmps69
  go_wp2
  go_end0
  exact ⟨rfl, rfl⟩
set_option maxHeartbeats 4000000 in
set_option maxRecDepth 100000 in
theorem count_yes (p : Nat) (n : Int) (w : World) (hc : w.cell? ⟨p, 3, none⟩ = some (.int .i64 n)) (hf : w.frozen? ⟨p, 3, none⟩ = false) (hn : 0 ≤ n ∧ n ≤ 1099511627776) :
    Calls Try.prog 69 #[.pointer (some ⟨p, 0, none⟩), .bool true] w fun e w' => e = .returned (.tuple #[]) ∧ w' = w.setCell ⟨p, 3, none⟩ (.int .i64 (n + 1)) := by
  have hw : IntKind.i64.wrap (n + 1) = n + 1 := by rw [IntKind.wrap_i64]; omega
  go_enter Try.func69, Try.ntmps69
  go_wp2
  go_end0
  exact ⟨rfl, rfl⟩


/-- What the deferred closures do: nothing, or they count. -/
def Counted (w : World) (sp : Option Nat) (n : Int) (yes : Bool) (w' : World) : Prop := (yes = false ∧ w' = w) ∨ (yes = true ∧ ∃ p, sp = some p ∧ w' = w.setCell ⟨p, 3, none⟩ (.int .i64 (n + 1)))
def ptrV : Option Nat → Value | none => .pointer none | some p => .pointer (some ⟨p, 0, none⟩)
set_option maxHeartbeats 4000000 in
set_option maxRecDepth 100000 in
theorem dropDefer_no (a c : Nat) (v : Value) (_ : v.cells = #[v]) (u : FrameMode) (w : World) (ha : w.cell? ⟨a, 0, none⟩ = some v) (hc : w.cell? ⟨c, 0, none⟩ = some (.bool false)) :
    CallsD Try.prog 79 #[.pointer (some ⟨a, 0, none⟩), .pointer (some ⟨c, 0, none⟩)] u w fun e u' w' => u' = u ∧ e = .returned (.tuple #[]) ∧ w' = w := by
  go_enter_d Try.func79, Try.ntmps79
  go_wp2_with fail
  refine (count_no _ _).mono ?_
  rintro e w1 ⟨rfl, rfl⟩
  go_wp2
  go_end0
  exact ⟨rfl, rfl⟩
set_option maxHeartbeats 4000000 in
set_option maxRecDepth 100000 in
theorem dropDefer_yes (a c p : Nat) (n : Int) (u : FrameMode) (w : World) (ha : w.cell? ⟨a, 0, none⟩ = some (.pointer (some ⟨p, 0, none⟩))) (hc : w.cell? ⟨c, 0, none⟩ = some (.bool true)) (h3 : w.cell? ⟨p, 3, none⟩ = some (.int .i64 n)) (hf : w.frozen? ⟨p, 3, none⟩ = false) (hn : 0 ≤ n ∧ n ≤ 1099511627776) :
    CallsD Try.prog 79 #[.pointer (some ⟨a, 0, none⟩), .pointer (some ⟨c, 0, none⟩)] u w fun e u' w' => u' = u ∧ e = .returned (.tuple #[]) ∧ w' = w.setCell ⟨p, 3, none⟩ (.int .i64 (n + 1)) := by
  have HC := hide (count_yes p n w h3 hf hn)
  clear h3 hf
  go_enter_d Try.func79, Try.ntmps79
  go_wp2_with fail
  refine (HC.out).mono ?_
  rintro e w1 ⟨rfl, rfl⟩
  go_wp2
  go_end0
  exact ⟨rfl, rfl⟩
set_option maxHeartbeats 4000000 in
set_option maxRecDepth 100000 in
theorem putDefer_no (a c : Nat) (k : Int) (hk : (k == 0) = false) (v : Value) (_ : v.cells = #[v]) (u : FrameMode) (w : World) (ha : w.cell? ⟨a, 0, none⟩ = some v) (hc : w.cell? ⟨c, 0, none⟩ = some (.int .i64 k)) :
    CallsD Try.prog 68 #[.pointer (some ⟨a, 0, none⟩), .pointer (some ⟨c, 0, none⟩)] u w fun e u' w' => u' = u ∧ e = .returned (.tuple #[]) ∧ w' = w := by
  have hk2 : ¬ k = 0 := by simpa using hk
  go_enter_d Try.func68, Try.ntmps68
  go_wp2_with fail
  refine (count_no _ _).mono ?_
  rintro e w1 ⟨rfl, rfl⟩
  go_wp2
  go_end0
  exact ⟨rfl, rfl⟩
set_option maxHeartbeats 4000000 in
set_option maxRecDepth 100000 in
theorem putDefer_yes (a c p : Nat) (n : Int) (u : FrameMode) (w : World) (ha : w.cell? ⟨a, 0, none⟩ = some (.pointer (some ⟨p, 0, none⟩))) (hc : w.cell? ⟨c, 0, none⟩ = some (.int .i64 0)) (h3 : w.cell? ⟨p, 3, none⟩ = some (.int .i64 n)) (hf : w.frozen? ⟨p, 3, none⟩ = false) (hn : 0 ≤ n ∧ n ≤ 1099511627776) :
    CallsD Try.prog 68 #[.pointer (some ⟨a, 0, none⟩), .pointer (some ⟨c, 0, none⟩)] u w fun e u' w' => u' = u ∧ e = .returned (.tuple #[]) ∧ w' = w.setCell ⟨p, 3, none⟩ (.int .i64 (n + 1)) := by
  have HC := hide (count_yes p n w h3 hf hn)
  clear h3 hf
  go_enter_d Try.func68, Try.ntmps68
  go_wp2_with fail
  refine (HC.out).mono ?_
  rintro e w1 ⟨rfl, rfl⟩
  go_wp2
  go_end0
  exact ⟨rfl, rfl⟩

/-- 'delete(m, q)', as a step of a region that draws. -/
theorem step_delV {w : World} {ops : Array Oper} {o : Oper} {a : Act} {K : Act → World → Prop} {Q : Exit → Act → World → Prop} {E : Prop} {m n : Nat} {f : Qn → Option Value}
    (hgd : o.guard = none) (x y : Operand) (ho : o.op = .call { callee := .builtin .delete, args := #[x, y], argTypes := #[119, 32] })
    (hm : a.eval x = .map (some m)) (h : MapV w 32 qnV m n f) (q : Qn) (hq : QnFine q) (hx : a.eval y = .agg #[.string q.n, .int .i64 q.t, .int .i64 q.c])
    (hK : ∀ w', MapV w' 32 qnV m n (fun k => if k = q then none else f k) → w.mapTurned w' m → K (a.put o.dst (.tuple #[])) w') :
    if Region.wanted o (yielded ops a.tmps) = true then Oper.wp Try.prog o a w K Q else E := by
  have hw : Region.wanted o (yielded ops a.tmps) = true := by simp [Region.wanted, hgd]
  rw [if_pos hw]
  obtain ⟨w', hrun, h1, h2⟩ := h.del (t := 119) (e := 46) lawQ14 Try.underlying119 qnV_inj q (keyQ q hq.1 hq.2.1 hq.2.2) o.type
  unfold qnV at hrun
  unfold Oper.wp
  simp [execOp, ho, resolve, invoke, builtin, hm, hx, hrun, Result.andThen]
  exact hK w' h1 h2
end Go.Proofs.Ytdlaepfnogmebaa

namespace Go.Proofs.Ytdlaepfnogmebaa
open Go.RowKit
variable {XG : Nat → Prop}

theorem fok_some {w : World} {p m : Nat} {oi : Option It} {ov : Option Value} (h : FOk XG w p m oi ov) : ov.isSome = oi.isSome := by
  cases oi with
  | none => rw [show ov = none from h]; rfl
  | some i => obtain ⟨vd, h1, _⟩ := h; rw [h1]; rfl
theorem fok_val {w : World} {p m : Nat} {oi : Option It} {ov : Option Value} (h : FOk XG w p m oi ov) : ∃ n t c a l cp ttl u rk, ov.getD (itV noIt (.slice none 0 0)) = .agg #[.string n, .int .i64 t, .int .i64 c, .slice a l cp, .int .i64 ttl, .int .i64 u, .int .i64 rk] := by
  cases oi with
  | none => rw [show ov = none from h]; exact ⟨_, _, _, _, _, _, _, _, _, rfl⟩
  | some i =>
    obtain ⟨vd, h1, h2, _⟩ := h
    obtain ⟨a, c, rfl⟩ := h2.len
    rw [h1]
    exact ⟨_, _, _, _, _, _, _, _, _, rfl⟩
def DropEnd (XG : Nat → Prop) (w : World) (p m : Nat) (b : Bool) (s' : Sto) (e : Ending) (w' : World) : Prop := e = .returned (.bool b) ∧ SAt XG w' p m s' ∧ KB p m w w'

set_option maxHeartbeats 8000000 in
set_option maxRecDepth 100000 in
theorem Drop_nil (q : Qn) (w : World) :
    Calls Try.prog 23 #[.pointer none, .agg #[.string q.n, .int .i64 q.t, .int .i64 q.c]] w fun e w' => e = .returned (.bool false) ∧ Keeps w w' := by
  have hmf : ∀ (fn : Fn) (first cap : Array Value) (w : World), (Instr.makeFunc fn first cap).run Try.prog w = .ok (.func fn first cap) w := fun _ _ _ _ => rfl
  have A := hide (((Blk.made w #[.pointer none] 25).alloc (.cells #[.string q.n, .int .i64 q.t, .int .i64 q.c] 32)).alloc (.cells #[.bool false] 4))
  have C := Blk.made ((w.alloc (.cells #[.pointer none] 25)).alloc (.cells #[.string q.n, .int .i64 q.t, .int .i64 q.c] 32)) #[.bool false] 4
  rw [size_allocG, size_allocG] at C
  replace C := hide C
  have K := hide ((((Keeps.refl w).alloc (.cells #[.pointer none] 25)).alloc (.cells #[.string q.n, .int .i64 q.t, .int .i64 q.c] 32)).alloc (.cells #[.bool false] 4))
  go_enter_defers Try.func23, Try.ntmps23
  go_upto_region 2 with fail
  generalize ((w.alloc (.cells #[.pointer none] 25)).alloc (.cells #[.string q.n, .int .i64 q.t, .int .i64 q.c] 32)).alloc (.cells #[.bool false] 4) = W at *
  have hle : Hid (w.heap.size ≤ w.heap.size + 1 + 1) := by rw [Hid]; omega
  have hAC : Hid (w.heap.size + 1 + 1 ≠ w.heap.size) := by rw [Hid]; omega
  generalize w.heap.size + 1 + 1 = CB at *
  generalize hF : w.heap.size = F at A hAC ⊢
  replace hF := hide hF
  have a0 := A.out.cell 0
  have c0 := C.out.cell 0
  have cf := C.out.frozen 0
  go_wp2_with fail
  refine (isMade_nil _).mono ?_
  rintro e w1 ⟨rfl, rfl⟩
  go_wp2_with fail
  have A2 := (A.out.other (a := ⟨CB, 0, none⟩) hAC.out (.bool false)).cell 0
  have C2 := (C.out.set 0 (.bool false)).cell 0
  have K2 := K.out.setC ⟨CB, 0, none⟩ hle.out (.bool false)
  generalize w1.setCell ⟨CB, 0, none⟩ (.bool false) = W2 at *
  refine leaves_cons (f := 79) (args := #[.pointer (some ⟨F, 0, none⟩), .pointer (some ⟨CB, 0, none⟩)]) (by simp) (by simp [go_sem]) ?_
  refine (dropDefer_no F CB (.pointer none) rfl _ W2 A2 C2).mono ?_
  rintro e u' w'' ⟨rfl, rfl, rfl⟩
  simp at C2
  simpa [Leaves, settle, results, Try.results23, go_sem, C2] using K2

set_option maxHeartbeats 16000000 in
set_option maxRecDepth 100000 in
theorem Drop_none (p m : Nat) (s : Sto) (q : Qn) (w : World) (h : SAt XG w p m s) (hq : QnFine q) (hb : Sto.has s q = false) :
    Calls Try.prog 23 #[.pointer (some ⟨p, 0, none⟩), .agg #[.string q.n, .int .i64 q.t, .int .i64 q.c]] w fun e w' => DropEnd XG w p m false s e w' := by
  have hmf : ∀ (fn : Fn) (first cap : Array Value) (w : World), (Instr.makeFunc fn first cap).run Try.prog w = .ok (.func fn first cap) w := fun _ _ _ _ => rfl
  have hS := hide h
  have hplt := h.lt.1
  have A := hide (((Blk.made w #[.pointer (some ⟨p, 0, none⟩)] 25).alloc (.cells #[.string q.n, .int .i64 q.t, .int .i64 q.c] 32)).alloc (.cells #[.bool false] 4))
  have B := (Blk.made (w.alloc (.cells #[.pointer (some ⟨p, 0, none⟩)] 25)) #[.string q.n, .int .i64 q.t, .int .i64 q.c] 32).alloc (.cells #[.bool false] 4)
  have C := Blk.made ((w.alloc (.cells #[.pointer (some ⟨p, 0, none⟩)] 25)).alloc (.cells #[.string q.n, .int .i64 q.t, .int .i64 q.c] 32)) #[.bool false] 4
  rw [size_allocG] at B
  rw [size_allocG, size_allocG] at C
  replace B := hide B
  replace C := hide C
  have K := hide ((((Keeps.refl w).alloc (.cells #[.pointer (some ⟨p, 0, none⟩)] 25)).alloc (.cells #[.string q.n, .int .i64 q.t, .int .i64 q.c] 32)).alloc (.cells #[.bool false] 4))
  go_enter_defers Try.func23, Try.ntmps23
  go_upto_region 2 with fail
  generalize ((w.alloc (.cells #[.pointer (some ⟨p, 0, none⟩)] 25)).alloc (.cells #[.string q.n, .int .i64 q.t, .int .i64 q.c] 32)).alloc (.cells #[.bool false] 4) = W at *
  have hle : Hid (w.heap.size ≤ w.heap.size + 1 + 1) := by rw [Hid]; omega
  have hAC : Hid (w.heap.size + 1 + 1 ≠ w.heap.size) := by rw [Hid]; omega
  generalize w.heap.size + 1 + 1 = CB at *
  generalize w.heap.size + 1 = BB at *
  generalize hF : w.heap.size = F at A hAC ⊢
  replace hF := hide hF
  have a0 := A.out.cell 0
  have c0 := C.out.cell 0
  have cf := C.out.frozen 0
  have hSW := hide (hS.out.keeps K.out)
  go_wp2_with fail
  refine (isMade_any p m s _ hSW.out).mono ?_
  rintro e w1 ⟨rfl, rfl⟩
  obtain ⟨h1, h2, v, n, f, h3, h4, h5, h6, h7, h8⟩ := hSW.out
  obtain ⟨⟨_, m1, _, _⟩, _, _⟩ := h3.four_cells
  obtain ⟨⟨b0, b1, b2⟩, _, _⟩ := B.out.three
  obtain ⟨xn, xt, xc, xa, xl, xp, xttl, xu, xr, hval⟩ := fok_val (h8 q)
  have l1 := (h6.keeps (Keeps.refl w1).drew).look_ok lawQ14 (t := 119) Try.underlying119 zeroItem q (keyQ q hq.1 hq.2.1 hq.2.2)
  rw [hval, fok_some (h8 q), show (Sto.find s.items q).isSome = false from hb] at l1
  unfold qnV at l1
  go_upto_region 4 with fail
  go_region
  all_goals
    have A2 := hide ((A.out.other (a := ⟨CB, 0, none⟩) hAC.out (.bool false)).drew)
    have C2 := hide (show Blk (w1.setCell ⟨CB, 0, none⟩ (.bool false)).drew CB #[.bool false] 4 by have := (C.out.set 0 (.bool false)).drew; simpa using this)
    have K2 := hide ((K.out.setC ⟨CB, 0, none⟩ hle.out (.bool false)).drew)
    generalize (w1.setCell ⟨CB, 0, none⟩ (.bool false)).drew = W2 at *
    clear a0 c0 cf m1 b0 b1 b2 l1
    have c0 : W2.cell? ⟨CB, 0, none⟩ = some (.bool false) := C2.out.cell 0
    have cf := C2.out.frozen 0
    go_wp2_with fail
    have A3 := (A2.out.other (a := ⟨CB, 0, none⟩) hAC.out (.bool false)).cell 0
    have C3 := (C2.out.set 0 (.bool false)).cell 0
    have K3 := K2.out.setC ⟨CB, 0, none⟩ hle.out (.bool false)
    generalize W2.setCell ⟨CB, 0, none⟩ (.bool false) = W3 at *
    refine leaves_cons (f := 79) (args := #[.pointer (some ⟨F, 0, none⟩), .pointer (some ⟨CB, 0, none⟩)]) (by simp) (by simp [go_sem]) ?_
    refine (dropDefer_no F CB (.pointer (some ⟨p, 0, none⟩)) rfl _ W3 A3 C3).mono ?_
    rintro e u' w'' ⟨rfl, rfl, rfl⟩
    simp at C3
    have hEND : DropEnd XG w p m false s (.returned (.bool false)) w'' := ⟨rfl, hS.out.keeps K3, KB.of K3⟩
    simpa [Leaves, settle, results, Try.results23, go_sem, C3] using hEND

theorem dropped_ok {s : Sto} {q : Qn} (h : StoOk s) : StoOk ⟨s.room, Sto.without s.items q, s.changes + 1⟩ := by
  refine ⟨h.room, ?_, ?_, fun i hi => h.fine i (List.mem_filter.1 hi).1, ?_⟩
  · have := h.len
    have := Sto.without_len s.items q
    show ((Sto.without s.items q).length : Int) ≤ s.room
    omega
  · show (Sto.keysL (Sto.without s.items q)).Nodup
    rw [Sto.without_keys]
    exact Sto.nodup_drop h.nodup q
  · have := h.count
    show 0 ≤ s.changes + 1
    omega
theorem mapTurned_other {w w' : World} {m k : Nat} (h : w.mapTurned w' m) (hk : k < w.heap.size) (hne : k ≠ m) : w'.heap[k]? = w.heap[k]? := (h.grown).block k hk (by simp; exact hne)
theorem Blk.turned {w w' : World} {m G : Nat} {cs : Array Value} {ty : TypeId} (h : Blk w G cs ty) (t : w.mapTurned w' m) (hne : G ≠ m) : Blk w' G cs ty := (mapTurned_other t h.lt hne).trans h

set_option maxHeartbeats 16000000 in
set_option maxRecDepth 100000 in
theorem Drop_some (p m : Nat) (s : Sto) (q : Qn) (w : World) (h : SAt XG w p m s) (hq : QnFine q) (hb : Sto.has s q = true) (hch : s.changes ≤ 1099511627776) :
    Calls Try.prog 23 #[.pointer (some ⟨p, 0, none⟩), .agg #[.string q.n, .int .i64 q.t, .int .i64 q.c]] w fun e w' => DropEnd XG w p m true ⟨s.room, Sto.without s.items q, s.changes + 1⟩ e w' := by
  have hmf : ∀ (fn : Fn) (first cap : Array Value) (w : World), (Instr.makeFunc fn first cap).run Try.prog w = .ok (.func fn first cap) w := fun _ _ _ _ => rfl
  have hS := hide h
  have hplt := h.lt.1
  have hmlt := h.lt.2
  have A := hide (((Blk.made w #[.pointer (some ⟨p, 0, none⟩)] 25).alloc (.cells #[.string q.n, .int .i64 q.t, .int .i64 q.c] 32)).alloc (.cells #[.bool false] 4))
  have B := (Blk.made (w.alloc (.cells #[.pointer (some ⟨p, 0, none⟩)] 25)) #[.string q.n, .int .i64 q.t, .int .i64 q.c] 32).alloc (.cells #[.bool false] 4)
  have C := Blk.made ((w.alloc (.cells #[.pointer (some ⟨p, 0, none⟩)] 25)).alloc (.cells #[.string q.n, .int .i64 q.t, .int .i64 q.c] 32)) #[.bool false] 4
  rw [size_allocG] at B
  rw [size_allocG, size_allocG] at C
  replace B := hide B
  replace C := hide C
  have K := hide ((((Keeps.refl w).alloc (.cells #[.pointer (some ⟨p, 0, none⟩)] 25)).alloc (.cells #[.string q.n, .int .i64 q.t, .int .i64 q.c] 32)).alloc (.cells #[.bool false] 4))
  go_enter_defers Try.func23, Try.ntmps23
  go_upto_region 2 with fail
  generalize ((w.alloc (.cells #[.pointer (some ⟨p, 0, none⟩)] 25)).alloc (.cells #[.string q.n, .int .i64 q.t, .int .i64 q.c] 32)).alloc (.cells #[.bool false] 4) = W at *
  have hle : Hid (w.heap.size ≤ w.heap.size + 1 + 1) := by rw [Hid]; omega
  have hAC : Hid (w.heap.size + 1 + 1 ≠ w.heap.size ∧ w.heap.size + 1 + 1 ≠ w.heap.size + 1) := by rw [Hid]; omega
  have hpX : Hid (p ≠ w.heap.size ∧ p ≠ w.heap.size + 1 ∧ p ≠ w.heap.size + 1 + 1 ∧ m ≠ w.heap.size ∧ m ≠ w.heap.size + 1 ∧ m ≠ w.heap.size + 1 + 1) := by rw [Hid]; omega
  generalize w.heap.size + 1 + 1 = CB at *
  generalize w.heap.size + 1 = BB at *
  generalize hF : w.heap.size = F at A hAC hpX ⊢
  replace hF := hide hF
  have a0 := A.out.cell 0
  have c0 := C.out.cell 0
  have cf := C.out.frozen 0
  have hSW := hide (hS.out.keeps K.out)
  go_wp2_with fail
  refine (isMade_any p m s _ hSW.out).mono ?_
  rintro e w1 ⟨rfl, rfl⟩
  obtain ⟨h1, h2, v, n, f, h3, h4, h5, h6, h7, h8⟩ := hS.out
  obtain ⟨⟨_, m1, _, _⟩, _, _⟩ := (h3.keeps K.out).four_cells
  obtain ⟨⟨b0, b1, b2⟩, _, _⟩ := B.out.three
  obtain ⟨xn, xt, xc, xa, xl, xp, xttl, xu, xr, hval⟩ := fok_val (h8 q)
  have l1 := (h6.keeps K.out.drew).look_ok lawQ14 (t := 119) Try.underlying119 zeroItem q (keyQ q hq.1 hq.2.1 hq.2.2)
  rw [hval, fok_some (h8 q), show (Sto.find s.items q).isSome = true from hb] at l1
  unfold qnV at l1
  have S0 := hide (h3.keeps K.out)
  have M0 := hide (h6.keeps K.out)
  have hks := hide (keys_small h2)
  have HV := hide h4
  have hap := hide h5.ap
  have hgl := hide h5.gl
  have HF8 := hide h8
  clear h3 h4 h6 h8 h5
  go_upto_region 4 with fail
  go_region
  all_goals
    have A2 := hide ((A.out.other (a := ⟨CB, 0, none⟩) hAC.out.1 (.bool true)).drew)
    have B2 := hide ((B.out.other (a := ⟨CB, 0, none⟩) hAC.out.2 (.bool true)).drew)
    have S2 := hide ((S0.out.other (a := ⟨CB, 0, none⟩) (fun e => hpX.out.2.2.1 e.symm) (.bool true)).drew)
    have M2 := hide (M0.out.same (w' := (w1.setCell ⟨CB, 0, none⟩ (.bool true)).drew) (Below.heap_setCell w1 _ _ _ hpX.out.2.2.2.2.2))
    have C2 := hide (show Blk (w1.setCell ⟨CB, 0, none⟩ (.bool true)).drew CB #[.bool true] 4 by have := (C.out.set 0 (.bool true)).drew; simpa using this)
    have K2 := hide ((K.out.setC ⟨CB, 0, none⟩ hle.out (.bool true)).drew)
    generalize (w1.setCell ⟨CB, 0, none⟩ (.bool true)).drew = W2 at *
    clear a0 c0 cf m1 b0 b1 b2 l1 A B C S0 M0
    have c0 : W2.cell? ⟨CB, 0, none⟩ = some (.bool true) := C2.out.cell 0
    go_upto_region 6 with fail
    have a0 : W2.cell? ⟨F, 0, none⟩ = some (.pointer (some ⟨p, 0, none⟩)) := A2.out.cell 0
    obtain ⟨⟨b0, b1, b2⟩, _, _⟩ := B2.out.three
    obtain ⟨⟨_, m1, _, _⟩, _, _⟩ := S2.out.four_cells
    have MD := hide (M2.out.keeps (Keeps.refl W2).drew)
    have T : W2.drew.cell? ⟨F, 0, none⟩ = some (.pointer (some ⟨p, 0, none⟩)) ∧ W2.drew.cell? ⟨BB, 0, none⟩ = some (.string q.n) ∧ W2.drew.cell? ⟨BB, 1, none⟩ = some (.int .i64 q.t) ∧ W2.drew.cell? ⟨BB, 2, none⟩ = some (.int .i64 q.c) ∧ W2.drew.cell? ⟨p, 1, none⟩ = some (.map (some m)) := ⟨a0, b0, b1, b2, m1⟩
    have HTT : Hid (∀ W3, W2.drew.mapTurned W3 m → W3.cell? ⟨F, 0, none⟩ = some (.pointer (some ⟨p, 0, none⟩)) ∧ W3.cell? ⟨BB, 0, none⟩ = some (.string q.n) ∧ W3.cell? ⟨BB, 1, none⟩ = some (.int .i64 q.t) ∧ W3.cell? ⟨BB, 2, none⟩ = some (.int .i64 q.c) ∧ W3.cell? ⟨p, 1, none⟩ = some (.map (some m))) := fun W3 t3 =>
      ⟨(A2.out.drew.turned t3 hpX.out.2.2.2.1.symm).cell 0, (B2.out.drew.turned t3 hpX.out.2.2.2.2.1.symm).cell 0, (B2.out.drew.turned t3 hpX.out.2.2.2.2.1.symm).cell 1, (B2.out.drew.turned t3 hpX.out.2.2.2.2.1.symm).cell 2, (S2.out.drew.turned t3 h1).cell 1⟩
    clear a0 b0 b1 b2 m1
    go_region_held3 (fun w' => w'.cell? ⟨F, 0, none⟩ = some (.pointer (some ⟨p, 0, none⟩)) ∧ w'.cell? ⟨BB, 0, none⟩ = some (.string q.n) ∧ w'.cell? ⟨BB, 1, none⟩ = some (.int .i64 q.t) ∧ w'.cell? ⟨BB, 2, none⟩ = some (.int .i64 q.c) ∧ w'.cell? ⟨p, 1, none⟩ = some (.map (some m))) (exact T) ((refine step_delV rfl _ _ rfl rfl MD.out q hq rfl ?_; intro W3 M3 t3; replace T := HTT.out W3 t3))
    have A3 := hide (A2.out.drew.turned t3 hpX.out.2.2.2.1.symm)
    have B3 := hide (B2.out.drew.turned t3 hpX.out.2.2.2.2.1.symm)
    have C3 := hide (C2.out.drew.turned t3 hpX.out.2.2.2.2.2.symm)
    have S3 := hide (S2.out.drew.turned t3 h1)
    have KB3 := hide ((KB.of (p := p) (m := m) K2.out.drew).trans (KB.turned t3))
    have hp3 : Hid (p < W3.heap.size) := S3.out.lt
    have hm3 : Hid (m < W3.heap.size) := M3.lt
    have hC3 : Hid (CB < W3.heap.size) := C3.out.lt
    have hg3 : Hid (∀ g, XG g → g < W3.heap.size) := fun g hg => Nat.lt_of_lt_of_le (hgl.out g hg) KB3.out.size
    have MM3 := hide M3
    clear A2 B2 C2 S2 M2 MD K2 HTT T t3 c0 M3
    have HD := hide (fun W (kk : KB p m w W) => Drop_q v s.keys q W (HV.out.kb hap.out kk) (by have := hks.out; omega))
    have T : W3.drew.cell? ⟨F, 0, none⟩ = some (.pointer (some ⟨p, 0, none⟩)) ∧ W3.drew.cell? ⟨BB, 0, none⟩ = some (.string q.n) ∧ W3.drew.cell? ⟨BB, 1, none⟩ = some (.int .i64 q.t) ∧ W3.drew.cell? ⟨BB, 2, none⟩ = some (.int .i64 q.c) := ⟨A3.out.cell 0, B3.out.cell 0, B3.out.cell 1, B3.out.cell 2⟩
    have n2 : W3.drew.cell? ⟨p, 2, none⟩ = some v := S3.out.cell 2
    have HTT : Hid (∀ w5, Keeps W3.drew w5 → w5.cell? ⟨F, 0, none⟩ = some (.pointer (some ⟨p, 0, none⟩)) ∧ w5.cell? ⟨BB, 0, none⟩ = some (.string q.n) ∧ w5.cell? ⟨BB, 1, none⟩ = some (.int .i64 q.t) ∧ w5.cell? ⟨BB, 2, none⟩ = some (.int .i64 q.c)) := fun w5 k => ⟨(A3.out.drew.keeps k).cell 0, (B3.out.drew.keeps k).cell 0, (B3.out.drew.keeps k).cell 1, (B3.out.drew.keeps k).cell 2⟩
    have HTS : Hid (∀ w5, Keeps W3.drew w5 → ∀ u, (w5.setCell ⟨p, 2, none⟩ u).cell? ⟨F, 0, none⟩ = some (.pointer (some ⟨p, 0, none⟩)) ∧ (w5.setCell ⟨p, 2, none⟩ u).cell? ⟨BB, 0, none⟩ = some (.string q.n) ∧ (w5.setCell ⟨p, 2, none⟩ u).cell? ⟨BB, 1, none⟩ = some (.int .i64 q.t) ∧ (w5.setCell ⟨p, 2, none⟩ u).cell? ⟨BB, 2, none⟩ = some (.int .i64 q.c)) := fun w5 k u =>
      ⟨((A3.out.drew.keeps k).other (a := ⟨p, 2, none⟩) hpX.out.1 u).cell 0, ((B3.out.drew.keeps k).other (a := ⟨p, 2, none⟩) hpX.out.2.1 u).cell 0, ((B3.out.drew.keeps k).other (a := ⟨p, 2, none⟩) hpX.out.2.1 u).cell 1, ((B3.out.drew.keeps k).other (a := ⟨p, 2, none⟩) hpX.out.2.1 u).cell 2⟩
    have HP2 : Hid (∀ w5, Keeps W3.drew w5 → w5.cell? ⟨p, 2, none⟩ = some v ∧ w5.frozen? ⟨p, 2, none⟩ = false) := fun w5 k => ⟨(S3.out.drew.keeps k).cell 2, (S3.out.drew.keeps k).frozen 2⟩
    go_upto_region 7 with fail
    obtain ⟨a0, b0, b1, b2⟩ := T
    refine wp_region_noPanic ?_
    go_region_with (go_at_call 80; refine (HD.out _ (KB3.out.drew)).mono ?_; intro e w5 hE; obtain ⟨vt, rfl, ot, k5⟩ := hE; obtain ⟨za, zc, hz⟩ := ot.form; rw [List.length_map] at hz; subst hz; replace ot := hide ot; replace k5 := hide k5; obtain ⟨p2, p2f⟩ := HP2.out _ k5.out; have T5 := HTT.out _ k5.out)
    all_goals
      refine NoPanic.normal ?_
      have A5 := hide ((A3.out.drew.keeps k5.out).other (a := ⟨p, 2, none⟩) hpX.out.1 (.slice za (Lr.drop s.keys q).length zc))
      have C5 := hide ((C3.out.drew.keeps k5.out).other (a := ⟨p, 2, none⟩) hpX.out.2.2.1 (.slice za (Lr.drop s.keys q).length zc))
      have S5 := hide (show Blk (w5.setCell ⟨p, 2, none⟩ (.slice za (Lr.drop s.keys q).length zc)) p #[.int .i64 s.room, .map (some m), .slice za (Lr.drop s.keys q).length zc, .int .i64 s.changes] 121 by have := (S3.out.drew.keeps k5.out).set 2 (.slice za (Lr.drop s.keys q).length zc); simpa using this)
      have O5 := hide (ot.out.setOther (a := ⟨p, 2, none⟩) hp3.out (.slice za (Lr.drop s.keys q).length zc))
      have KB5 := hide ((KB3.out.drew.trans (KB.of k5.out)).trans (KB.setP w5 2 (.slice za (Lr.drop s.keys q).length zc)))
      have M5 := hide (show (w5.setCell ⟨p, 2, none⟩ (.slice za (Lr.drop s.keys q).length zc)).heap[m]? = W3.heap[m]? from (Below.heap_setCell _ _ _ _ (fun e => h1 e.symm)).trans (k5.out.block m hm3.out))
      generalize w5.setCell ⟨p, 2, none⟩ (.slice za (Lr.drop s.keys q).length zc) = W5 at *
      clear A3 B3 C3 S3 KB3 HD n2 HTT HTS HP2 a0 b0 b1 b2 p2 p2f T5 ot k5
      have c0 : W5.cell? ⟨CB, 0, none⟩ = some (.bool true) := C5.out.cell 0
      have cf : W5.frozen? ⟨CB, 0, none⟩ = false := C5.out.frozen 0
      go_wp2_with fail
      have A6 := hide (A5.out.other (a := ⟨CB, 0, none⟩) hAC.out.1 (.bool true))
      have C6 := hide (show Blk (W5.setCell ⟨CB, 0, none⟩ (.bool true)) CB #[.bool true] 4 by have := C5.out.set 0 (.bool true); simpa using this)
      have S6 := hide (S5.out.other (a := ⟨CB, 0, none⟩) (fun e => hpX.out.2.2.1 e.symm) (.bool true))
      have O6 := hide (O5.out.setOther (a := ⟨CB, 0, none⟩) hC3.out (.bool true))
      have KB6 := hide (KB5.out.setNew (x := ⟨CB, 0, none⟩) hle.out (.bool true))
      have M6 := hide ((Below.heap_setCell W5 ⟨CB, 0, none⟩ (.bool true) m hpX.out.2.2.2.2.2).trans M5.out)
      generalize W5.setCell ⟨CB, 0, none⟩ (.bool true) = W6 at *
      refine leaves_cons (f := 79) (args := #[.pointer (some ⟨F, 0, none⟩), .pointer (some ⟨CB, 0, none⟩)]) (by simp) (by simp [go_sem]) ?_
      refine (dropDefer_yes F CB p s.changes _ W6 (A6.out.cell 0) (C6.out.cell 0) (S6.out.cell 3) (S6.out.frozen 3) ⟨h2.count, hch⟩).mono ?_
      rintro e u' w'' ⟨rfl, rfl, rfl⟩
      have C7 : (W6.setCell ⟨p, 3, none⟩ (.int .i64 (s.changes + 1))).cell? ⟨CB, 0, none⟩ = some (.bool true) := (C6.out.other (a := ⟨p, 3, none⟩) hpX.out.2.2.1 (.int .i64 (s.changes + 1))).cell 0
      have S7 : Blk (W6.setCell ⟨p, 3, none⟩ (.int .i64 (s.changes + 1))) p #[.int .i64 s.room, .map (some m), .slice za (Lr.drop s.keys q).length zc, .int .i64 (s.changes + 1)] 121 := by
        have := S6.out.set 3 (.int .i64 (s.changes + 1))
        simpa using this
      have hEND : DropEnd XG w p m true ⟨s.room, Sto.without s.items q, s.changes + 1⟩ (.returned (.bool true)) (W6.setCell ⟨p, 3, none⟩ (.int .i64 (s.changes + 1))) := by
        have KB7 : KB p m w (W6.setCell ⟨p, 3, none⟩ (.int .i64 (s.changes + 1))) := KB6.out.trans (KB.setP W6 3 _)
        refine ⟨rfl, ⟨h1, dropped_ok h2, _, n, _, S7, ?_, (O6.out.setOther (a := ⟨p, 3, none⟩) hp3.out _).pl hp3.out hm3.out hg3.out (fun g hg => Nat.lt_of_lt_of_le (hgl.out g hg) KB7.size), MM3.out.same ((Below.heap_setCell _ _ _ _ (fun e => h1 e.symm)).trans M6.out), ?_, fun k => ?_⟩, KB7⟩
        · rw [show Sto.keys ⟨s.room, Sto.without s.items q, s.changes + 1⟩ = Lr.drop s.keys q from Sto.without_keys _ _]
          exact (O6.out.setOther (a := ⟨p, 3, none⟩) hp3.out _).read
        · show (n : Int) ≤ s.changes + 1
          omega
        · show FOk XG _ p m (Sto.find (Sto.without s.items q) k) _
          rw [Sto.find_without]
          by_cases hk : k = q
          · rw [if_pos hk, if_pos hk]; rfl
          · rw [if_neg hk, if_neg hk]; exact (HF8.out k).kb KB7
      simpa [Leaves, settle, results, Try.results23, go_sem, C7] using hEND
end Go.Proofs.Ytdlaepfnogmebaa

namespace Go.Proofs.Ytdlaepfnogmebaa
open Go.RowKit
variable {XG : Nat → Prop}

theorem Sto.touch_len' (l : List Qn) (q : Qn) : (Lr.touch l q).length ≤ l.length + 1 := by
  unfold Lr.touch
  rw [List.length_append]
  have := Lr.drop_len l q
  simp; omega
theorem MapV.drewKeeps {w w' : World} {k : TypeId} {α : Type} {kv : α → Value} {b n : Nat} {f : α → Option Value} (h : MapV w k kv b n f) (kk : Keeps w.drew w') : MapV w' k kv b n f := MapV.same h (kk.block b h.lt)
/-- Does what is kept give way? -/
def Sto.yields (s : Sto) (now : Int) (q : Qn) (rank : Int) : Bool := match Sto.find s.items q with | some i => Rk.over i.rank (Ag.live now i.u) rank | none => true

set_option maxHeartbeats 16000000 in
set_option maxRecDepth 100000 in
theorem yields_any (p m : Nat) (s : Sto) (now : Int) (q : Qn) (rank : Int) (w : World) (h : SAt XG w p m s) (hq : QnFine q) :
    Calls Try.prog 75 #[.pointer (some ⟨p, 0, none⟩), .int .i64 now, .agg #[.string q.n, .int .i64 q.t, .int .i64 q.c], .int .i64 rank] w fun e w' => e = .returned (.bool (Sto.yields s now q rank)) ∧ Keeps w w' := by
  obtain ⟨h1, h2, v, n, f, h3, h4, h5, h6, h7, h8⟩ := h
  have l1 := fun W (kk : Keeps w W) => (h6.keeps kk).look_ok lawQ14 (t := 119) Try.underlying119 zeroItem q (keyQ q hq.1 hq.2.1 hq.2.2)
  obtain ⟨x, va, vl, vc, hx, hy⟩ : ∃ (x : It) (va : Option Addr) (vl vc : Nat), (f q).getD (itV noIt (.slice none 0 0)) = itV x (.slice va vl vc) ∧ Sto.yields s now q rank = (!(f q).isSome || Rk.over x.rank (Ag.live now x.u) rank) := by
    have HF := h8 q
    unfold Sto.yields
    cases hfd : Sto.find s.items q with
    | none =>
      rw [hfd] at HF
      rw [show f q = none from HF]
      exact ⟨noIt, none, 0, 0, rfl, rfl⟩
    | some i =>
      rw [hfd] at HF
      obtain ⟨vd, hv1, hv2, _⟩ := HF
      obtain ⟨a, c, rfl⟩ := hv2.len
      rw [hv1]
      exact ⟨i, a, _, c, rfl, rfl⟩
  rw [hx] at l1
  rw [hy]
  generalize (f q).isSome = kept at *
  have HT : Hid (kept = true → (!kept || Rk.over x.rank (Ag.live now x.u) rank) = Rk.over x.rank (Ag.live now x.u) rank) := fun e => by rw [e]; rfl
  have HZ : Hid (kept = false → (!kept || Rk.over x.rank (Ag.live now x.u) rank) = true) := fun e => by rw [e]; rfl
  generalize (!kept || Rk.over x.rank (Ag.live now x.u) rank) = RES at *
  unfold qnV itV at l1
  have S := hide h3
  have B := hide (Blk.made w #[.string q.n, .int .i64 q.t, .int .i64 q.c] 32)
  have K := hide ((Keeps.refl w).alloc (.cells #[.string q.n, .int .i64 q.t, .int .i64 q.c] 32))
  clear h2 h3 h4 h5 h6 h7 h8 hx hy
  go_enter Try.func75, Try.ntmps75
  go_upto_region 1 with fail
  generalize w.alloc (.cells #[.string q.n, .int .i64 q.t, .int .i64 q.c] 32) = W at *
  generalize hF : w.heap.size = F at B ⊢
  replace hF := hide hF
  obtain ⟨⟨_, m1, _, _⟩, _, _⟩ := (S.out.keeps K.out).four_cells
  obtain ⟨⟨b0, b1, b2⟩, _, _⟩ := B.out.three
  have l2 := l1 _ K.out.drew
  have l3 := l1 _ (K.out.alloc (.cells #[.string ⟨#[]⟩, .int .i64 0, .int .i64 0, .slice none 0 0, .int .i64 0, .int .i64 0, .int .i64 0] 46)).drew
  replace l1 := hide l1
  go_region
  all_goals
    have I := hide (Blk.made W #[.string x.set.key.n, .int .i64 x.set.key.t, .int .i64 x.set.key.c, .slice va vl vc, .int .i64 x.set.ttl, .int .i64 x.u, .int .i64 x.rank] 46).drew
    have K2 := hide (K.out.alloc (.cells #[.string x.set.key.n, .int .i64 x.set.key.t, .int .i64 x.set.key.c, .slice va vl vc, .int .i64 x.set.ttl, .int .i64 x.u, .int .i64 x.rank] 46)).drew
    generalize (W.alloc (.cells #[.string x.set.key.n, .int .i64 x.set.key.t, .int .i64 x.set.key.c, .slice va vl vc, .int .i64 x.set.ttl, .int .i64 x.u, .int .i64 x.rank] 46)).drew = W2 at *
    generalize W.heap.size = N at *
    clear m1 b0 b1 b2 l1 l2 l3 B K
    obtain ⟨⟨i0, i1, i2, i3, i4, i5, i6⟩, _, _⟩ := I.out.seven
    cases kept
    · have hr := hide (HZ.out rfl)
      clear HT HZ
      go_upto_region 2 with fail
      go_quiet (fail)
      go_wp2
      go_ret
      exact ⟨ret_bool hr.out.symm, K2.out.drewN _⟩
    · have hr := hide (HT.out rfl)
      clear HT HZ
      go_upto_region 2 with fail
      have T : W2.drew.cell? ⟨N, 6, none⟩ = some (.int .i64 x.rank) ∧ W2.drew.cell? ⟨N, 5, none⟩ = some (.int .i64 x.u) := ⟨i6, i5⟩
      have HL := hide (fun W => ageLive_any now x.u W)
      have HO := hide (fun W => over_any x.rank rank (Ag.live now x.u) W)
      generalize Ag.live now x.u = LV at *
      generalize Rk.over x.rank LV rank = OV at *
      go_region_held3 (fun w' => w'.cell? ⟨N, 6, none⟩ = some (.int .i64 x.rank) ∧ w'.cell? ⟨N, 5, none⟩ = some (.int .i64 x.u)) (exact T) ((first | (go_at_call 74; refine (HL.out _).mono ?_; rintro e w5 ⟨rfl, rfl⟩) | (go_at_call 113; refine (HO.out _).mono ?_; rintro e w5 ⟨rfl, rfl⟩)))
      go_wp2
      go_ret
      exact ⟨ret_bool hr.out.symm, K2.out.drew⟩

/-- What is laid, ahead of its being counted; f: what the map held. -/
def KeepEnd (XG : Nat → Prop) (w : World) (p m : Nat) (s : Sto) (x : It) (vd : Value) (f : Qn → Option Value) (e : Ending) (w' : World) : Prop :=
  e = .returned (.tuple #[]) ∧ KB p m w w' ∧ ∃ (v : Value) (n : Nat) (f' : Qn → Option Value), Blk w' p #[.int .i64 s.room, .map (some m), v, .int .i64 s.changes] 121 ∧ ReadRow w' v 3 ((Sto.keysL (Sto.cut (Sto.without s.items x.set.key ++ [x]) s.room)).map qnL) ∧ (∀ a k c, v = .slice (some a) k c → w.heap.size ≤ a.block ∧ a.block < w'.heap.size) ∧ MapV w' 32 qnV m n f' ∧ (n : Int) ≤ s.changes + 1 ∧
    ∀ W9, (∀ q, FOk XG W9 p m (Sto.find s.items q) (f q)) → ReadS W9 vd x.set.ds → Pl XG W9 vd p m → ∀ q, FOk XG W9 p m (Sto.find (Sto.cut (Sto.without s.items x.set.key ++ [x]) s.room) q) (f' q)
theorem OwnsR.above {w : World} {B : Nat} {ty : TypeId} {c : Nat} {v : Value} {rows : List (List Value)} (h : OwnsR w B ty c v rows) : ∀ a k cp, v = .slice (some a) k cp → B ≤ a.block := by
  intro a n cap e
  rcases h.1.2 with ⟨rfl, _⟩ | ⟨g, cap', cur, rfl, hB, _⟩
  · cases e
  · simp only [Value.slice.injEq, Option.some.injEq] at e
    obtain ⟨rfl, _⟩ := e
    exact hB

/-- How far those that are cut have been forgotten. -/
def KeepRel (w W7 : World) (p m : Nat) (s : Sto) (CK : List Qn) (vu : Value) (n : Nat) (f : Qn → Option Value) (i : Value) (wr : World) : Prop :=
  ∃ (j : Nat) (f2 : Qn → Option Value), j ≤ CK.length ∧ i = .int .i64 j ∧ (∀ q, f2 q = if q ∈ CK.take j then none else f q) ∧ Blk wr p #[.int .i64 s.room, .map (some m), vu, .int .i64 s.changes] 121 ∧ MapV wr 32 qnV m n f2 ∧ KB p m w wr ∧ KB p m W7 wr
theorem KeepRel.mk {w W7 : World} {p m : Nat} {s : Sto} {CK : List Qn} {vu : Value} {n : Nat} {f f2 : Qn → Option Value} {i : Value} {wr : World} (j : Nat) (h : j ≤ CK.length) (hi : i = .int .i64 j) (hf : ∀ q, f2 q = if q ∈ CK.take j then none else f q)
    (hb : Blk wr p #[.int .i64 s.room, .map (some m), vu, .int .i64 s.changes] 121) (hm : MapV wr 32 qnV m n f2) (k : KB p m w wr) (k7 : KB p m W7 wr) : KeepRel w W7 p m s CK vu n f i wr := ⟨j, f2, h, hi, hf, hb, hm, k, k7⟩

set_option maxHeartbeats 16000000 in
set_option maxRecDepth 100000 in
theorem keep_any (p m : Nat) (s : Sto) (x : It) (vd : Value) (w : World) (h1 : p ≠ m) (h2 : StoOk s) (v : Value) (n : Nat) (f : Qn → Option Value) (h3 : Blk w p #[.int .i64 s.room, .map (some m), v, .int .i64 s.changes] 121) (h4 : ReadRow w v 3 (s.keys.map qnL)) (h5 : Apart v p m) (h6 : MapV w 32 qnV m n f) (h7 : (n : Int) ≤ s.changes) (hx : ItFine x) (hvf : ∃ a c, vd = .slice a x.set.ds.length c) (hch : s.changes ≤ 1099511627776) :
    Calls Try.prog 76 #[.pointer (some ⟨p, 0, none⟩), itV x vd] w fun e w' => KeepEnd XG w p m s x vd f e w' := by
  obtain ⟨va, vc, rfl⟩ := hvf
  generalize hvl : x.set.ds.length = vl at *
  have hplt := h3.lt
  have hmlt := h6.lt
  unfold itV
  have A := hide (Blk.made w #[.string x.set.key.n, .int .i64 x.set.key.t, .int .i64 x.set.key.c, .slice va vl vc, .int .i64 x.set.ttl, .int .i64 x.u, .int .i64 x.rank] 46)
  have K := hide ((Keeps.refl w).alloc (.cells #[.string x.set.key.n, .int .i64 x.set.key.t, .int .i64 x.set.key.c, .slice va vl vc, .int .i64 x.set.ttl, .int .i64 x.u, .int .i64 x.rank] 46))
  go_enter Try.func76, Try.ntmps76
  go_upto_region 1 with fail
  generalize w.alloc (.cells #[.string x.set.key.n, .int .i64 x.set.key.t, .int .i64 x.set.key.c, .slice va vl vc, .int .i64 x.set.ttl, .int .i64 x.u, .int .i64 x.rank] 46) = W at *
  have hwW : Hid (w.heap.size ≤ W.heap.size) := K.out.size
  have hmF : Hid (m ≠ w.heap.size ∧ p ≠ w.heap.size) := by rw [Hid]; omega
  generalize hF : w.heap.size = F at A hmF ⊢
  replace hF := hide hF
  obtain ⟨⟨a0, a1, a2, a3, a4, a5, a6⟩, _, _⟩ := A.out.seven
  have B := hide (Blk.made W #[.string x.set.key.n, .int .i64 x.set.key.t, .int .i64 x.set.key.c] 32)
  have A1 := hide (A.out.alloc (.cells #[.string x.set.key.n, .int .i64 x.set.key.t, .int .i64 x.set.key.c] 32))
  have K1 := hide (K.out.alloc (.cells #[.string x.set.key.n, .int .i64 x.set.key.t, .int .i64 x.set.key.c] 32))
  go_upto_region 2 with fail
  generalize W.alloc (.cells #[.string x.set.key.n, .int .i64 x.set.key.t, .int .i64 x.set.key.c] 32) = W1 at *
  have hmN : Hid (m ≠ W.heap.size ∧ p ≠ W.heap.size) := by have := hwW.out; rw [Hid]; omega
  generalize W.heap.size = N at *
  clear a0 a1 a2 a3 a4 a5 a6 A K
  obtain ⟨⟨a0, a1, a2, a3, a4, a5, a6⟩, _, _⟩ := A1.out.seven
  obtain ⟨⟨b0, b1, b2⟩, _, _⟩ := B.out.three
  have S1 := hide (h3.keeps K1.out)
  obtain ⟨⟨_, m1, _, _⟩, _, _⟩ := S1.out.four_cells
  have hn : n < maxLen := by unfold maxLen; omega
  obtain ⟨W3, hrun, M3, t3⟩ := (h6.keeps K1.out.drew).put (t := 119) (e := 46) lawQ14 Try.underlying119 qnV_inj hn x.set.key (keyQ x.set.key hx.2.1.1.1 hx.2.1.1.2.1 hx.2.1.1.2.2) (itV x (.slice va vl vc))
  have MM3 := hide M3
  have tt3 := hide t3
  unfold qnV itV at hrun
  clear M3 t3
  go_region
  have S3 := hide (S1.out.drew.turned tt3.out h1)
  have B3 := hide (B.out.drew.turned tt3.out hmN.out.1.symm)
  have KB3 := hide ((KB.of (p := p) (m := m) K1.out.drew).trans (KB.turned tt3.out))
  have hp3 : Hid (p < W3.heap.size) := S3.out.lt
  have hm3 : Hid (m < W3.heap.size) := MM3.out.lt
  have hw3 : Hid (w.heap.size ≤ W3.heap.size) := KB3.out.size
  clear a0 a1 a2 a3 a4 a5 a6 b0 b1 b2 m1 hrun S1 B A1 K1 tt3
  have hks := keys_small h2
  have hroom := h2.room
  have HTC := hide (fun W (kk : KB p m w W) => Touch_q v s.keys x.set.key W (h4.kb h5 kk) (by omega))
  have htl := Sto.touch_len' s.keys x.set.key
  have HCC := hide (fun vt W (hr : ReadRow W vt 3 ((Lr.touch s.keys x.set.key).map qnL)) => Cut_q vt (Lr.touch s.keys x.set.key) s.room W hr (by omega) (by omega))
  have T : W3.drew.cell? ⟨p, 2, none⟩ = some v ∧ W3.drew.cell? ⟨p, 0, none⟩ = some (.int .i64 s.room) ∧ W3.drew.cell? ⟨N, 0, none⟩ = some (.string x.set.key.n) ∧ W3.drew.cell? ⟨N, 1, none⟩ = some (.int .i64 x.set.key.t) ∧ W3.drew.cell? ⟨N, 2, none⟩ = some (.int .i64 x.set.key.c) := ⟨S3.out.cell 2, S3.out.cell 0, B3.out.cell 0, B3.out.cell 1, B3.out.cell 2⟩
  have HTT : Hid (∀ w5, Keeps W3.drew w5 → w5.cell? ⟨p, 2, none⟩ = some v ∧ w5.cell? ⟨p, 0, none⟩ = some (.int .i64 s.room) ∧ w5.cell? ⟨N, 0, none⟩ = some (.string x.set.key.n) ∧ w5.cell? ⟨N, 1, none⟩ = some (.int .i64 x.set.key.t) ∧ w5.cell? ⟨N, 2, none⟩ = some (.int .i64 x.set.key.c)) := fun w5 k => ⟨(S3.out.drew.keeps k).cell 2, (S3.out.drew.keeps k).cell 0, (B3.out.drew.keeps k).cell 0, (B3.out.drew.keeps k).cell 1, (B3.out.drew.keeps k).cell 2⟩
  have KJ : Keeps W3.drew W3.drew := Keeps.refl _
  go_upto_region 3 with fail
  go_region_held3 (fun w' => w'.cell? ⟨p, 2, none⟩ = some v ∧ w'.cell? ⟨p, 0, none⟩ = some (.int .i64 s.room) ∧ w'.cell? ⟨N, 0, none⟩ = some (.string x.set.key.n) ∧ w'.cell? ⟨N, 1, none⟩ = some (.int .i64 x.set.key.t) ∧ w'.cell? ⟨N, 2, none⟩ = some (.int .i64 x.set.key.c)) (exact T) ((first | (go_at_call 78; refine (HTC.out _ (KB3.out.drew.trans (KB.of KJ))).mono ?_; intro e w5 hE; obtain ⟨vt, rfl, ot, k5⟩ := hE; have rt := hide ot.read; replace KJ := KJ.trans k5; replace T := HTT.out _ KJ; clear ot k5) | (go_at_call 114; refine (HCC.out _ _ rt.out).mono ?_; intro e w6 hE; obtain ⟨vu, vw, rfl, ou, ow, k6⟩ := hE; have hsz := hide KJ.size; replace KJ := KJ.trans k6; replace T := HTT.out _ KJ; clear k6)))
  have ou' := hide (ou.le (show W3.heap.size ≤ _ from hsz.out))
  have ow' := hide (ow.le (show W3.heap.size ≤ _ from hsz.out))
  clear ou ow rt T hsz HCC HTC
  obtain ⟨ua, uc, hu⟩ := ou'.out.form
  obtain ⟨wa, wc, hw⟩ := ow'.out.form
  rw [List.length_map] at hu hw
  generalize (List.drop (Lr.cutAt (Lr.touch s.keys x.set.key).length s.room) (Lr.touch s.keys x.set.key)).length = ul at hu
  generalize hwl : (List.take (Lr.cutAt (Lr.touch s.keys x.set.key).length s.room) (Lr.touch s.keys x.set.key)).length = wl at hw
  subst hu hw
  replace hwl := hide hwl
  generalize hKL : Lr.touch s.keys x.set.key = KL at *
  have hA := Lr.cutAt_le KL.length s.room
  generalize hAA : Lr.cutAt KL.length s.room = A at *
  have S6 := hide (S3.out.drew.keeps KJ)
  have KB6 := hide (KB3.out.drew.trans (KB.of KJ))
  have M6 := hide (MM3.out.drewKeeps KJ)
  clear S3 B3 KB3 HTT KJ MM3
  obtain ⟨⟨_, _, p2, _⟩, ⟨_, _, f2, _⟩, _⟩ := S6.out.four_cells
  go_upto_region 5 with fail
  have S7 := hide (show Blk (w6.setCell ⟨p, 2, none⟩ (.slice ua ul uc)) p #[.int .i64 s.room, .map (some m), .slice ua ul uc, .int .i64 s.changes] 121 by have := S6.out.set 2 (.slice ua ul uc); simpa using this)
  have KB7 := hide (KB6.out.trans (KB.setP w6 2 (.slice ua ul uc)))
  have M7 := hide (M6.out.same (w' := w6.setCell ⟨p, 2, none⟩ (.slice ua ul uc)) (Below.heap_setCell _ _ _ _ (fun e => h1 e.symm)))
  have RU := hide (ou'.out.setOther (a := ⟨p, 2, none⟩) hp3.out (.slice ua ul uc)).read
  have RW := hide (ow'.out.setOther (a := ⟨p, 2, none⟩) hp3.out (.slice ua ul uc)).read
  have AU := hide (ou'.out.apart hp3.out hm3.out)
  have AW := hide (ow'.out.apart hp3.out hm3.out)
  have AB := hide (show ∀ a k c, (Value.slice ua ul uc) = .slice (some a) k c → w.heap.size ≤ a.block ∧ a.block < (w6.setCell ⟨p, 2, none⟩ (.slice ua ul uc)).heap.size from fun a k c e => ⟨Nat.le_trans hw3.out (ou'.out.above a k c e), by rw [show (w6.setCell ⟨p, 2, none⟩ (.slice ua ul uc)).heap.size = w6.heap.size by simp [World.setCell]]; exact ou'.out.inw a k c e⟩)
  generalize w6.setCell ⟨p, 2, none⟩ (.slice ua ul uc) = W7 at *
  clear p2 f2 S6 KB6 M6 ou' ow'
  have hqf : Hid (∀ q ∈ KL.take A, QnFine q) := fun q hqm => by
    have hq2 := List.mem_of_mem_take hqm
    rw [← hKL] at hq2
    unfold Lr.touch at hq2
    rw [List.mem_append, List.mem_singleton] at hq2
    rcases hq2 with hq2 | hq2
    · have := (List.mem_filter.1 hq2).1
      obtain ⟨i, hi, rfl⟩ := List.mem_map.1 this
      exact (h2.fine i hi).2.1.1
    · rw [hq2]; exact hx.2.1.1
  have hcl : Hid ((KL.take A).length ≤ 1001) := by rw [Hid, List.length_take]; omega
  have HFIN : Hid (∀ wr f'', (∀ q, f'' q = if q ∈ KL.take A then none else (fun y => if y = x.set.key then some (itV x (.slice va vl vc)) else f y) q) → Blk wr p #[.int .i64 s.room, .map (some m), .slice ua ul uc, .int .i64 s.changes] 121 → MapV wr 32 qnV m (n + 1) f'' → KB p m w wr → KB p m W7 wr → KeepEnd XG w p m s x (.slice va vl vc) f (.returned (.tuple #[])) wr) := by
    intro wr f'' hf'' hb hm hk hk7
    have hLk : Sto.keysL (Sto.without s.items x.set.key ++ [x]) = KL := by rw [← hKL]; exact Sto.touch_keys s.items x
    have hLn : (Sto.without s.items x.set.key ++ [x]).length = KL.length := by rw [← hLk, Sto.keysL_len]
    have hcutL : Sto.cut (Sto.without s.items x.set.key ++ [x]) s.room = (Sto.without s.items x.set.key ++ [x]).drop A := by unfold Sto.cut; rw [hLn, hAA]
    have hnd : (Sto.keysL (Sto.without s.items x.set.key ++ [x])).Nodup := by rw [hLk, ← hKL]; exact Sto.nodup_touch h2.nodup _
    refine ⟨rfl, hk, _, n + 1, f'', hb, ?_, (fun a k c e => ⟨(AB.out a k c e).1, Nat.lt_of_lt_of_le (AB.out a k c e).2 hk7.size⟩), hm, by omega, fun W9 h8 hv hap q => ?_⟩
    · rw [hcutL, Sto.keysL_drop, hLk]
      exact RU.out.kb AU.out hk7
    · rw [hcutL, Sto.find_drop hnd, Sto.keysL_take, hLk, hf'' q]
      by_cases hq : q ∈ KL.take A
      · rw [if_pos hq, if_pos hq]; rfl
      · rw [if_neg hq, if_neg hq, Sto.find_append, Sto.find_without]
        by_cases hqx : q = x.set.key
        · subst hqx
          rw [if_pos rfl]
          simp only [if_true, Option.none_or]
          have : Sto.find [x] x.set.key = some x := by simp [Sto.find]
          rw [this]
          exact ⟨_, rfl, hv, hap⟩
        · rw [if_neg hqx]
          simp only [if_neg hqx]
          have : Sto.find [x] q = none := by simp [Sto.find, Ne.symm hqx]
          rw [this, Option.or_none]
          exact h8 q
  clear h4 h5 h6 h3 RU
  generalize KL.take A = CK at *
  go_wp2_with fail
  go_loopw [8, 38] (fun _ i wr => KeepRel w W7 p m s CK (.slice ua ul uc) (n + 1) (fun y => if y = x.set.key then some (itV x (.slice va vl vc)) else f y) i wr) (fun _ i _ => wl - (intOf i).toNat)
  case atStart => exact KeepRel.mk 0 (by omega) rfl (fun _ => by simp) S7.out M7.out KB7.out (KB.refl _ _ _)
  case round =>
    clear S7 M7 KB7
    obtain ⟨j, f2, hj, rfl, hf2, S, M, KX, KB7⟩ := hrel
    have hwl' := hwl.out
    replace hf2 := hide hf2
    replace S := hide S
    replace M := hide M
    replace KX := hide KX
    replace KB7 := hide KB7
    have hcl' := hcl.out
    by_cases hlt : j < CK.length
    · have i2 : (j : Int) < (wl : Int) := by omega
      have i0 : (0 : Int) ≤ (j : Int) := by omega
      have hv2 := RW.out.kb AW.out KB7.out
      obtain ⟨b, off, rfl, _, _⟩ := hv2.parts (by rw [List.length_map]; omega)
      obtain ⟨c0, c1, c2⟩ := row3 hv2 hlt
      have hqj := hide (hqf.out _ (List.getElem_mem hlt))
      have HTK := hide (show CK.take (j + 1) = CK.take j ++ [CK[j]] from List.take_succ_eq_append_getElem hlt)
      generalize hoo : off + j * 3 = o at *
      generalize CK[j] = y at *
      clear hv2
      have B := hide (Blk.made wr #[.string y.n, .int .i64 y.t, .int .i64 y.c] 32)
      have S1 := hide (S.out.alloc (.cells #[.string y.n, .int .i64 y.t, .int .i64 y.c] 32))
      have M1 := hide (M.out.keeps ((Keeps.refl wr).alloc (.cells #[.string y.n, .int .i64 y.t, .int .i64 y.c] 32)))
      have KA := hide (KB.of (p := p) (m := m) ((Keeps.refl wr).alloc (.cells #[.string y.n, .int .i64 y.t, .int .i64 y.c] 32)))
      go_upto_region 8 with fail
      generalize wr.alloc (.cells #[.string y.n, .int .i64 y.t, .int .i64 y.c] 32) = W8 at *
      generalize wr.heap.size = N8 at *
      clear c0 c1 c2 S M
      obtain ⟨⟨b0, b1, b2⟩, _, _⟩ := B.out.three
      obtain ⟨⟨_, m1, _, _⟩, _, _⟩ := S1.out.four_cells
      have MD := hide (M1.out.keeps (Keeps.refl W8).drew)
      go_region_law (refine step_delV rfl _ _ rfl rfl MD.out y hqj.out rfl ?_; intro W9 M9 t9)
      all_goals
        have S9 := hide (S1.out.drew.turned t9 h1)
        have K9 := hide (KA.out.drew.trans (KB.turned t9))
        have HF9 : Hid (∀ q, (fun k => if k = y then none else f2 k) q = if q ∈ CK.take (j + 1) then none else (fun y => if y = x.set.key then some (itV x (.slice va vl vc)) else f y) q) := fun q => by
          rw [HTK.out]
          simp only [List.mem_append, List.mem_singleton]
          by_cases hqy : q = y
          · rw [if_pos hqy, if_pos (.inr hqy)]
          · rw [if_neg hqy, hf2.out q]
            by_cases hq : q ∈ CK.take j
            · rw [if_pos hq, if_pos (.inl hq)]
            · rw [if_neg hq, if_neg (by rintro (h | h); exact hq h; exact hqy h)]
        have MM9 := hide M9
        have KF := hide (KX.out.trans K9.out)
        have KF7 := hide (KB7.out.trans K9.out)
        clear M9 t9 S1 M1 KA MD b0 b1 b2 m1 B hf2 KX KB7 K9
        go_wp2_with fail
        go_roundw
        case rel => exact KeepRel.mk (j + 1) (by omega) (by go_num) HF9.out S9.out MM9.out KF.out KF7.out
        case measure => simp [intOf]; omega
    · have i3 : ¬ (j : Int) < (wl : Int) := by omega
      have hEND := hide (HFIN.out wr f2 (fun q => by rw [hf2.out q, List.take_of_length_le (by omega)]) S.out M.out KX.out KB7.out)
      clear HFIN hf2 S M KX KB7
      go_wp2
      go_end0
      exact hEND.out
end Go.Proofs.Ytdlaepfnogmebaa
