/- What appendNumber, appendHead, appendQuestions, appendRecords of layer 8 answer. No condition. -/
import Derived.Test.YtojihkejlmggcaaDoorMsgW7
namespace Go.Proofs.YtojihkejlmggcaaDoor
open Go.RowKit

theorem Keeps.oth {w w' : World} (h : Keeps w w') : Oth w w' := fun k o hk _ _ => by rw [h.block k (Array.getElem?_eq_some_iff.1 hk).1]; exact hk
theorem Blk.oth {w w' : World} {G : Nat} {cs : Array Value} {ty : TypeId} (h : Blk w G cs ty) (ho : Oth w w') (ht : ty ≠ 5) : Blk w' G cs ty :=
  ho G _ h (by simp) (fun c fz e => by simp only [Obj.cells.injEq] at e; exact ht e.2.1)
/-- What comes of an append to a row of bytes. -/
def AppEnd8 (w : World) (B : Nat) (l x : List UInt8) (e : Ending) (w' : World) : Prop := ∃ v, e = .returned v ∧ Owns w' B v (l ++ x) ∧ Below B w w' ∧ Oth w w'
theorem AppEnd8.mk {w w' : World} {B : Nat} {l x : List UInt8} {v : Value} (h : Owns w' B v (l ++ x)) (hb : Below B w w') (ho : Oth w w') : AppEnd8 w B l x (.returned v) w' := ⟨v, rfl, h, hb, ho⟩

def hpre (P : Nat → Int) : Nat → List UInt8
  | 0 => []
  | j + 1 => hpre P j ++ bl (Oct.putS (P j) 2)
theorem hpre_len (P : Nat → Int) : ∀ j, (hpre P j).length ≤ 4 * j
  | 0 => by simp [hpre]
  | j + 1 => by
    have := hpre_len P j
    have h2 := putS_size (P j) 2
    simp only [hpre, List.length_append, bl_length]
    omega
def nums6 (a b c d e f : Int) (j : Nat) : Int := if j = 0 then a else if j = 1 then b else if j = 2 then c else if j = 3 then d else if j = 4 then e else f
theorem head_pre (m : Ms) : bl (headS m) = hpre (nums6 m.id m.bits m.qs.length m.an.length m.ns.length m.ar.length) 6 := by
  simp [headS, bl_append, hpre, nums6]

end Go.Proofs.YtojihkejlmggcaaDoor
