/- What slices.Equal, and the document's Same of layer 6, answer of questions and records; what Same of layer 8 answers. No condition. -/
import Derived.Test.YtdfhojhljfcolaaMsgW6
namespace Go.Proofs.Ytdfhojhljfcolaa
open Go.RowKit

theorem bytes_eq (a b : ByteArray) : a.toList = b.toList ↔ a = b := by
  constructor
  · intro h
    apply bl_inj
    rw [← toList_bl, ← toList_bl, h]
  · intro h; rw [h]
theorem neq_qn (p q : Qn) (w : World) : (binOp .neq 26 (.agg #[.string p.n, .int .i64 p.t, .int .i64 p.c]) (.agg #[.string q.n, .int .i64 q.t, .int .i64 q.c])).run Try.prog w = .ok (.bool (!decide (p = q))) w := by
  obtain ⟨a, x, y⟩ := p
  obtain ⟨b, z, u⟩ := q
  simp [go_sem, bytes_eq]
  by_cases h1 : a = b
  · by_cases h2 : x = z
    · by_cases h3 : y = u
      · simp [h1, h2, h3]
      · simp [h1, h2, h3]
    · simp [h1, h2]
  · simp [h1]
theorem neq_rec (p q : Rec) (w : World) : (binOp .neq 29 (.agg #[.string p.n, .int .i64 p.t, .int .i64 p.c, .int .i64 p.l, .string p.d]) (.agg #[.string q.n, .int .i64 q.t, .int .i64 q.c, .int .i64 q.l, .string q.d])).run Try.prog w = .ok (.bool (!decide (p = q))) w := by
  obtain ⟨a, x, y, s, c⟩ := p
  obtain ⟨b, z, u, t, d⟩ := q
  simp [go_sem, bytes_eq]
  by_cases h1 : a = b
  · by_cases h2 : x = z
    · by_cases h3 : y = u
      · by_cases h4 : s = t
        · by_cases h5 : c = d
          · simp [h1, h2, h3, h4, h5]
          · simp [h1, h2, h3, h4, h5]
        · simp [h1, h2, h3, h4]
      · simp [h1, h2, h3]
    · simp [h1, h2]
  · simp [h1]
theorem take8_step {α : Type} {l k : List α} {j : Nat} (hl : j < l.length) (hk : j < k.length) (h : l.take j = k.take j) (e : l[j] = k[j]) : l.take (j + 1) = k.take (j + 1) := by
  rw [List.take_succ_eq_append_getElem hl, List.take_succ_eq_append_getElem hk, h, e]
theorem ne_at {α : Type} {l k : List α} {j : Nat} (hl : j < l.length) (hk : j < k.length) (e : ¬ l[j] = k[j]) : ¬ l = k := by
  intro h
  subst h
  exact e rfl

set_option maxHeartbeats 4000000 in
set_option maxRecDepth 100000 in
theorem refsame6_any (v u : Value) (l k : List Rec) (w : World) (hv : ReadRow w v 5 (l.map recL8)) (hu : ReadRow w u 5 (k.map recL8)) (hl : l.length ≤ maxLen) (hk : k.length ≤ maxLen) :
    Calls Try.prog 19 #[v, u] w fun e w' => e = .returned (.bool (decide (l = k))) ∧ Keeps w w' := by
  have hl' := hl
  have hk' := hk
  unfold maxLen at hl' hk'
  obtain ⟨a, cap, h1⟩ := hv.len
  obtain ⟨a2, cap2, h2⟩ := hu.len
  rw [List.length_map] at h1 h2
  subst h1 h2
  by_cases hlen : l.length = k.length
  · have hne : ((l.length : Int) != (k.length : Int)) = false := by rw [hlen]; simp
    go_enter Try.func19, Try.ntmps19
    go_wp2
    go_loopw [5] (fun i wr => ∃ j : Nat, j ≤ l.length ∧ i = .int .i64 j ∧ Hid (l.take j = k.take j) ∧ Keeps w wr) (fun i _ => l.length - (intOf i).toNat)
    case atStart => exact ⟨0, by omega, rfl, by simp [Hid], Keeps.refl _⟩
    case round =>
      obtain ⟨j, hj, rfl, HA, K⟩ := hrel
      by_cases hlt : j < l.length
      · have hv2 := hv.keeps K
        have hu2 := hu.keeps K
        have hlt2 : j < k.length := by omega
        have i2 : (j : Int) < (l.length : Int) := by omega
        have i3 : (j : Int) < (k.length : Int) := by omega
        have i0 : (0 : Int) ≤ (j : Int) := by omega
        obtain ⟨b, off, rfl, _, _⟩ := hv2.parts (by rw [List.length_map]; omega)
        obtain ⟨b2, off2, rfl, _, _⟩ := hu2.parts (by rw [List.length_map]; omega)
        obtain ⟨c0, c1, c2, c3, c4⟩ := row5 hv2 hlt
        obtain ⟨e0, e1, e2, e3, e4⟩ := row5 hu2 hlt2
        have HS := hide (fun e => take8_step hlt hlt2 HA.out e)
        have HN := hide (fun e => ne_at hlt hlt2 e)
        have rn := neq_rec l[j] k[j]
        generalize hoo : off + j * 5 = o at *
        generalize hoo2 : off2 + j * 5 = o2 at *
        generalize l[j] = x at *
        generalize k[j] = y at *
        clear hv2 hu2 hv hu
        by_cases he : x = y
        · have HE := hide (HS.out he)
          rw [decide_eq_true he] at rn
          clear he HS HN HA
          go_wp2_with fail
          go_region
          go_wp2
          go_roundw
          case rel => exact ⟨j + 1, by omega, by go_num, HE, K.drew⟩
          case measure => simp [intOf]; omega
        · have HE := hide (HN.out he)
          rw [decide_eq_false he] at rn
          clear he HS HN HA
          go_wp2_with fail
          go_region
          go_wp2
          go_ret
          exact ⟨ret_bool (by rw [decide_eq_false HE.out]), K.drew⟩
      · obtain rfl : j = l.length := by omega
        have HE : Hid (l = k) := by
          have := HA.out
          rw [List.take_length, hlen, List.take_length] at this
          exact this
        go_wp2
        go_ret
        exact ⟨ret_bool (by rw [decide_eq_true HE.out]), K⟩
  · have hne : ((l.length : Int) != (k.length : Int)) = true := by rw [bne_iff_ne]; omega
    have HE : Hid (¬ l = k) := fun h => hlen (by rw [h])
    go_enter Try.func19, Try.ntmps19
    go_wp2
    go_ret
    exact ⟨ret_bool (by rw [decide_eq_false HE.out]), Keeps.refl _⟩

theorem Six8.keeps {a b c : Addr} {x y z : Value} {w w' : World} (h : w.cell? a = some x ∧ w.cell? b = some y ∧ w.cell? c = some z ∧ a.block < w.heap.size ∧ b.block < w.heap.size ∧ c.block < w.heap.size) (k : Keeps w w') :
    w'.cell? a = some x ∧ w'.cell? b = some y ∧ w'.cell? c = some z ∧ a.block < w'.heap.size ∧ b.block < w'.heap.size ∧ c.block < w'.heap.size :=
  ⟨(Below.cell k h.2.2.2.1).trans h.1, (Below.cell k h.2.2.2.2.1).trans h.2.1, (Below.cell k h.2.2.2.2.2).trans h.2.2.1, Nat.lt_of_lt_of_le h.2.2.2.1 k.size, Nat.lt_of_lt_of_le h.2.2.2.2.1 k.size, Nat.lt_of_lt_of_le h.2.2.2.2.2 k.size⟩
theorem ms_eq (m k : Ms) : decide (m = k) = (decide (m.id = k.id) && decide (m.bits = k.bits) && decide (m.qs = k.qs) && decide (m.an = k.an) && decide (m.ns = k.ns) && decide (m.ar = k.ar)) := by
  obtain ⟨a, b, c, d, e, f⟩ := m
  obtain ⟨a', b', c', d', e', f'⟩ := k
  simp only [Ms.mk.injEq, Bool.decide_and, Bool.and_assoc]
/-- Two messages that were boxed. -/
def MsLens (m : Ms) : Prop := m.qs.length ≤ maxLen ∧ m.an.length ≤ maxLen ∧ m.ns.length ≤ maxLen ∧ m.ar.length ≤ maxLen
theorem MsFine.lens {m : Ms} (h : MsFine m) : MsLens m := ⟨h.1.1, h.2.1.1, h.2.2.1.1, h.2.2.2.1⟩

end Go.Proofs.Ytdfhojhljfcolaa
