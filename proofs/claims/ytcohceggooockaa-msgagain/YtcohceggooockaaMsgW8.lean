/- What appendNumber, appendHead, appendQuestions, appendRecords of layer 8 answer. No condition. -/
import Derived.Test.YtcohceggooockaaMsgW7
namespace Go.Proofs.Ytcohceggooockaa
open Go.RowKit

theorem Keeps.oth {w w' : World} (h : Keeps w w') : Oth w w' := fun k o hk _ _ => by rw [h.block k (Array.getElem?_eq_some_iff.1 hk).1]; exact hk
theorem Blk.oth {w w' : World} {G : Nat} {cs : Array Value} {ty : TypeId} (h : Blk w G cs ty) (ho : Oth w w') (ht : ty ≠ 5) : Blk w' G cs ty :=
  ho G _ h (by simp) (fun c fz e => by simp only [Obj.cells.injEq] at e; exact ht e.2.1)
/-- What comes of an append to a row of bytes. -/
def AppEnd8 (w : World) (B : Nat) (l x : List UInt8) (e : Ending) (w' : World) : Prop := ∃ v, e = .returned v ∧ Owns w' B v (l ++ x) ∧ Below B w w' ∧ Oth w w'
theorem AppEnd8.mk {w w' : World} {B : Nat} {l x : List UInt8} {v : Value} (h : Owns w' B v (l ++ x)) (hb : Below B w w') (ho : Oth w w') : AppEnd8 w B l x (.returned v) w' := ⟨v, rfl, h, hb, ho⟩

set_option maxHeartbeats 2000000 in
theorem appNum_any (B : Nat) (v : Value) (l : List UInt8) (n : Int) (w : World) (hown : Owns w B v l) (hB : B ≤ w.heap.size) (hl : l.length ≤ 100000000) :
    Calls Try.prog 59 #[v, .int .i64 n] w (AppEnd8 w B l (bl (Oct.putS n 2))) := by
  have hp := putS_size n 2
  go_enter Try.func59, Try.ntmps59
  go_wp2_with fail
  refine (put_any _ _ _).mono ?_
  rintro e w1 ⟨rfl, k1⟩
  have hs := k1.size
  generalize Oct.putS n 2 = X at *
  go_wp2_with (at_builtin; refine wpList_appStr _ rfl _ _ rfl B _ _ rfl (hown.below k1) X rfl ?c1 ?c2 ?_)
  case c1 => omega
  case c2 => omega
  intro v' w2 hown2 hb2 ho2
  go_wp2
  go_ret
  exact AppEnd8.mk hown2 ((Below.mono k1 hB).trans hb2) (k1.oth.trans ho2)

def hpre (P : Nat → Int) : Nat → List UInt8
  | 0 => []
  | j + 1 => hpre P j ++ bl (Oct.putS (P j) 2)
theorem hpre_len (P : Nat → Int) : ∀ j, (hpre P j).length ≤ 4 * j
  | 0 => by simp [hpre]
  | j + 1 => by
    have := hpre_len P j
    have h2 := putS_size (P j) 2
    simp only [hpre, List.length_append, bl_length]
    omega
def nums6 (a b c d e f : Int) (j : Nat) : Int := if j = 0 then a else if j = 1 then b else if j = 2 then c else if j = 3 then d else if j = 4 then e else f
theorem head_pre (m : Ms) : bl (headS m) = hpre (nums6 m.id m.bits m.qs.length m.an.length m.ns.length m.ar.length) 6 := by
  simp [headS, bl_append, hpre, nums6]

set_option maxHeartbeats 4000000 in
set_option maxRecDepth 100000 in
theorem appHead_any (B : Nat) (v : Value) (l : List UInt8) (u : Value) (m : Ms) (w : World) (hm : MsAt w u m) (hown : Owns w B v l) (hB : B ≤ w.heap.size) (hl : l.length ≤ 1000000) :
    Calls Try.prog 35 #[v, u] w (AppEnd8 w B l (bl (headS m))) := by
  obtain ⟨vq, va, vn, vr, rfl, rq, ra, rn, rr⟩ := hm
  obtain ⟨aq, kq, hq⟩ := rq.len
  obtain ⟨aa, ka, ha⟩ := ra.len
  obtain ⟨an, kn, hn⟩ := rn.len
  obtain ⟨ar, kr, hr⟩ := rr.len
  rw [List.length_map] at hq ha hn hr
  subst hq ha hn hr
  clear rq ra rn rr
  rw [head_pre]
  generalize m.id = n0 at *
  generalize m.bits = n1 at *
  generalize m.qs.length = n2 at *
  generalize m.an.length = n3 at *
  generalize m.ns.length = n4 at *
  generalize m.ar.length = n5 at *
  have HL := hide (hpre_len (nums6 n0 n1 n2 n3 n4 n5))
  have O0 := hide (hown.alloc (.cells #[.int .i64 n0, .int .i64 n1, .slice aq n2 kq, .slice aa n3 ka, .slice an n4 kn, .slice ar n5 kr] 26))
  have K0 := hide ((Keeps.refl w).alloc (.cells #[.int .i64 n0, .int .i64 n1, .slice aq n2 kq, .slice aa n3 ka, .slice an n4 kn, .slice ar n5 kr] 26))
  clear hown
  go_enter Try.func35, Try.ntmps35
  go_wp2_with fail
  generalize w.alloc (.cells #[.int .i64 n0, .int .i64 n1, .slice aq n2 kq, .slice aa n3 ka, .slice an n4 kn, .slice ar n5 kr] 26) = W at *
  go_loopw [0, 24] (fun b i wr => ∃ j : Nat, j ≤ 6 ∧ i = .int .i64 j ∧ Owns wr B b (l ++ hpre (nums6 n0 n1 n2 n3 n4 n5) j) ∧ Below B w wr ∧ Oth w wr) (fun _ i _ => 6 - (intOf i).toNat)
  case atStart => exact ⟨0, by omega, rfl, by simp only [hpre, List.append_nil]; exact O0.out, Below.mono K0.out hB, K0.out.oth⟩
  case round =>
    clear O0 K0
    obtain ⟨j, hj, rfl, hown, hb, ho⟩ := hrel
    by_cases hlt : j < 6
    · have hs := hb.size
      have hlen := HL.out j
      have ri : ∀ w, (Instr.index 45 (.agg #[.int .i64 n0, .int .i64 n1, .int .i64 n2, .int .i64 n3, .int .i64 n4, .int .i64 n5]) (.int .i64 j)).run Try.prog w = .ok (.int .i64 (nums6 n0 n1 n2 n3 n4 n5 j)) w := by
        rcases (show j = 0 ∨ j = 1 ∨ j = 2 ∨ j = 3 ∨ j = 4 ∨ j = 5 by omega) with rfl | rfl | rfl | rfl | rfl | rfl <;> exact fun w => by kernel_rfl
      have HC := hide (fun n => appNum_any B _ _ n wr hown (by omega) (by simp only [List.length_append]; omega))
      have HS := hide (show hpre (nums6 n0 n1 n2 n3 n4 n5) (j + 1) = hpre (nums6 n0 n1 n2 n3 n4 n5) j ++ bl (Oct.putS (nums6 n0 n1 n2 n3 n4 n5 j) 2) from rfl)
      generalize nums6 n0 n1 n2 n3 n4 n5 j = X at *
      generalize hpre (nums6 n0 n1 n2 n3 n4 n5) j = Y at *
      go_wp2_with fail
      refine (HC.out _).mono ?_
      rintro e w5 ⟨v5, rfl, own5, b5, o5⟩
      clear HC hown
      replace own5 := hide own5
      replace b5 := hide (hb.trans b5)
      replace o5 := hide (ho.trans o5)
      go_wp2
      go_roundw
      case rel => exact ⟨j + 1, by omega, by go_num, by rw [HS.out, ← List.append_assoc]; exact own5.out, b5.out, o5.out⟩
      case measure => simp [intOf]; omega
    · obtain rfl : j = 6 := by omega
      generalize hpre (nums6 n0 n1 n2 n3 n4 n5) 6 = Y at *
      go_wp2
      go_ret
      exact AppEnd8.mk hown hb ho
end Go.Proofs.Ytcohceggooockaa
