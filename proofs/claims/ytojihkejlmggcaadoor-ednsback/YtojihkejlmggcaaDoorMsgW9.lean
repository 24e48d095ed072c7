/- What appendQuestions, appendRecords of layer 8 answer. No condition. -/
import Derived.Test.YtojihkejlmggcaaDoorMsgW8
namespace Go.Proofs.YtojihkejlmggcaaDoor
open Go.RowKit

def qpre (qs : List Qn) (j : Nat) : List UInt8 := (qs.take j).flatMap fun q => bl (qnS q)
theorem qpre_step {qs : List Qn} {j : Nat} (h : j < qs.length) : qpre qs (j + 1) = qpre qs j ++ (bl qs[j].n ++ bl (Oct.putS qs[j].t 2) ++ bl (Oct.putS qs[j].c 2)) := by
  rw [qpre, List.take_succ_eq_append_getElem h, List.flatMap_append]
  simp [qpre, qnS, bl_append]
theorem qpre_len {qs : List Qn} (h : ∀ q ∈ qs, q.n.size ≤ 255) : ∀ j, j ≤ qs.length → (qpre qs j).length ≤ 263 * j
  | 0, _ => by simp [qpre]
  | j + 1, hj => by
    have := qpre_len h j (by omega)
    have h1 := h _ (List.getElem_mem (show j < qs.length by omega))
    have h2 := putS_size qs[j].t 2
    have h3 := putS_size qs[j].c 2
    rw [qpre_step (by omega)]
    simp only [List.length_append, bl_length]
    omega
theorem appQ_pre (b : ByteArray) (qs : List Qn) : bl (appQ b qs) = bl b ++ qpre qs qs.length := by
  rw [qpre, List.take_length, appQ]
  induction qs generalizing b with
  | nil => simp
  | cons q r ih => rw [List.foldl_cons, ih, bl_append, List.flatMap_cons, List.append_assoc]

/-- The two numbers of a question that was boxed. -/
def QBox (G : Nat) (t c : Int) (w : World) : Prop := w.cell? ⟨G, 1, none⟩ = some (.int .i64 t) ∧ w.cell? ⟨G, 2, none⟩ = some (.int .i64 c) ∧ G < w.heap.size

/-- What comes of records that are appended. -/
def RsEnd (w : World) (B : Nat) (x : ByteArray) (e : Ending) (w' : World) : Prop := ∃ v', e = .returned v' ∧ Owns w' B v' (bl x) ∧ Below B w w' ∧ Oth w w'
theorem RsEnd.mk {w w' : World} {B : Nat} {x : ByteArray} {v : Value} (h : Owns w' B v (bl x)) (hb : Below B w w') (ho : Oth w w') : RsEnd w B x (.returned v) w' := ⟨v, rfl, h, hb, ho⟩
theorem size_alloc (w : World) (o : Obj) : (w.alloc o).heap.size = w.heap.size + 1 := by simp
theorem enc_len (base : ByteArray) (r : Rec) (hd : r.d.size ≤ 65535) : (encS base 12 r).size ≤ 65808 := by
  unfold encS
  split
  · rename_i h
    have h2 : Cm.wrOk (bl base) 12 (bl r.n) = true := by
      simp only [encOk, Bool.and_eq_true] at h
      exact h.2
    have h3 := (wr_pos h2).2
    have p1 := putS_size r.t 2
    have p2 := putS_size r.c 2
    have p3 := putS_size r.l 4
    have p4 := putS_size r.d.size 2
    simp only [recB, ByteArray.size_append]
    omega
  · exact Nat.zero_le _

end Go.Proofs.YtojihkejlmggcaaDoor
