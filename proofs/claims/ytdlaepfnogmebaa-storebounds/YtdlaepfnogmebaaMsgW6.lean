/- What Check of layer 8 answers. No condition. -/
import Derived.Test.YtdlaepfnogmebaaMsgW4
namespace Go.Proofs.Ytdlaepfnogmebaa
open Go.RowKit

theorem row3 {w : World} {b off n cap : Nat} {qs : List Qn} (h : ReadRow w (.slice (some ⟨b, off, none⟩) n cap) 3 (qs.map qnL)) {j : Nat} (hj : j < qs.length) :
    w.cell? ⟨b, off + j * 3, none⟩ = some (.string qs[j].n) ∧ w.cell? ⟨b, off + j * 3 + 1, none⟩ = some (.int .i64 qs[j].t) ∧ w.cell? ⟨b, off + j * 3 + 2, none⟩ = some (.int .i64 qs[j].c) := by
  obtain ⟨b', off', hb, _, hc⟩ := h.parts (by rw [List.length_map]; omega)
  simp only [Option.some.injEq, Addr.mk.injEq, and_true] at hb
  obtain ⟨rfl, rfl⟩ := hb
  have hj' : j < (qs.map qnL).length := by simpa using hj
  have e : ∀ k, k < 3 → w.cell? ⟨b, off + j * 3 + k, none⟩ = (qnL qs[j])[k]? := fun k hk => by rw [hc j hj' k hk]; simp
  exact ⟨e 0 (by omega), e 1 (by omega), e 2 (by omega)⟩
theorem row5 {w : World} {b off n cap : Nat} {rs : List Rec} (h : ReadRow w (.slice (some ⟨b, off, none⟩) n cap) 5 (rs.map recL8)) {j : Nat} (hj : j < rs.length) :
    w.cell? ⟨b, off + j * 5, none⟩ = some (.string rs[j].n) ∧ w.cell? ⟨b, off + j * 5 + 1, none⟩ = some (.int .i64 rs[j].t) ∧ w.cell? ⟨b, off + j * 5 + 2, none⟩ = some (.int .i64 rs[j].c) ∧ w.cell? ⟨b, off + j * 5 + 3, none⟩ = some (.int .i64 rs[j].l) ∧ w.cell? ⟨b, off + j * 5 + 4, none⟩ = some (.string rs[j].d) := by
  obtain ⟨b', off', hb, _, hc⟩ := h.parts (by rw [List.length_map]; omega)
  simp only [Option.some.injEq, Addr.mk.injEq, and_true] at hb
  obtain ⟨rfl, rfl⟩ := hb
  have hj' : j < (rs.map recL8).length := by simpa using hj
  have e : ∀ k, k < 5 → w.cell? ⟨b, off + j * 5 + k, none⟩ = (recL8 rs[j])[k]? := fun k hk => by rw [hc j hj' k hk]; simp
  exact ⟨e 0 (by omega), e 1 (by omega), e 2 (by omega), e 3 (by omega), e 4 (by omega)⟩

theorem all_take {α : Type} {l : List α} {f : α → Bool} {j : Nat} (hj : j < l.length) : (l.take (j + 1)).all f = ((l.take j).all f && f l[j]) := by
  rw [List.take_succ_eq_append_getElem hj, List.all_append]; simp only [List.all_cons, List.all_nil, Bool.and_true]
theorem all_no {α : Type} {l : List α} {f : α → Bool} {j : Nat} (hj : j < l.length) (h : f l[j] = false) : l.all f = false := by
  rw [Bool.eq_false_iff]
  intro ha
  rw [List.all_eq_true] at ha
  have := ha _ (List.getElem_mem hj)
  rw [h] at this
  cases this

/-- What a message that comes in is bounded by. -/
def RecsFine (l : List Rec) : Prop := l.length ≤ maxLen ∧ ∀ x ∈ l, x.n.size ≤ maxLen ∧ x.d.size ≤ maxLen
def MsFine (m : Ms) : Prop := (m.qs.length ≤ maxLen ∧ ∀ x ∈ m.qs, x.n.size ≤ maxLen) ∧ RecsFine m.an ∧ RecsFine m.ns ∧ RecsFine m.ar
def qsOk (l : List Qn) : Bool := num2 l.length && l.all qnOk
def rsOk (l : List Rec) : Bool := num2 l.length && l.all recOk
theorem msOk_parts (m : Ms) : msOk m = (num2 m.id && num2 m.bits && qsOk m.qs && rsOk m.an && rsOk m.ns && rsOk m.ar) := rfl

end Go.Proofs.Ytdlaepfnogmebaa
