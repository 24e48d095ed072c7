/- What decodeQuestion, decodeHead, sections of layer 8 answer. No condition. What decodeList of layer 8 answers, of questions and of records. No condition. What the document's questions and section of layer 8 answer; and both Heads. No condition. What Decode of layer 8, and the document's, answer. No condition. -/
import Derived.Test.YtdlaepfnogmebaaMsg
namespace Go.Proofs.Ytdlaepfnogmebaa
open Go.RowKit

theorem Blk.three {w : World} {G : Nat} {p q r : Value} {ty : TypeId} (h : Blk w G #[p, q, r] ty) :
    (w.cell? ⟨G, 0, none⟩ = some p ∧ w.cell? ⟨G, 1, none⟩ = some q ∧ w.cell? ⟨G, 2, none⟩ = some r) ∧ (w.frozen? ⟨G, 0, none⟩ = false ∧ w.frozen? ⟨G, 1, none⟩ = false ∧ w.frozen? ⟨G, 2, none⟩ = false) ∧ G < w.heap.size :=
  ⟨⟨h.cell 0, h.cell 1, h.cell 2⟩, ⟨h.frozen 0, h.frozen 1, h.frozen 2⟩, h.lt⟩
def d1Q (d : D1 Qn) : Value := .tuple #[qnV d.x, .int .i64 d.next, .int .i64 d.e]
def d1R (d : D1 Rec) : Value := .tuple #[recV d.x, .int .i64 d.next, .int .i64 d.e]

theorem decQ_bad {m : ByteArray} {p : Nat} (h : ¬ (Cm.readL (bl m) p).e = 0) : decQ m p = ⟨noQn, 0, (Cm.readL (bl m) p).e⟩ := by rw [decQ, if_neg h]
theorem decQ_cut {m : ByteArray} {p : Nat} (h : (Cm.readL (bl m) p).e = 0) (h2 : ¬ (Cm.readL (bl m) p).next + 4 ≤ m.size) : decQ m p = ⟨noQn, 0, 2⟩ := by rw [decQ, if_pos h, if_neg h2]
theorem decQ_yes {m : ByteArray} {p : Nat} (h : (Cm.readL (bl m) p).e = 0) (h2 : (Cm.readL (bl m) p).next + 4 ≤ m.size) :
    decQ m p = ⟨⟨rrS (Cm.readL (bl m) p), Oct.getN m (Cm.readL (bl m) p).next 2, Oct.getN m (((Cm.readL (bl m) p).next : Int) + 2) 2⟩, (Cm.readL (bl m) p).next + 4, 0⟩ := by rw [decQ, if_pos h, if_pos h2]; rfl

/-- The places of a message's lists, by the number of its block. -/
def secV (G : Nat) : Value := .agg #[.pointer (some ⟨G, 3, none⟩), .pointer (some ⟨G, 4, none⟩), .pointer (some ⟨G, 5, none⟩)]
def hc (m : ByteArray) (j k : Nat) : Value := .int .i64 (if k < j then num m k else 0)
def headA (m : ByteArray) (j : Nat) : Array Value := #[hc m j 0, hc m j 1, hc m j 2, hc m j 3, hc m j 4, hc m j 5]
theorem headA_zero (m : ByteArray) : headA m 0 = #[.int .i64 0, .int .i64 0, .int .i64 0, .int .i64 0, .int .i64 0, .int .i64 0] := rfl
theorem headA_six (m : ByteArray) : headA m 6 = #[.int .i64 (num m 0), .int .i64 (num m 1), .int .i64 (num m 2), .int .i64 (num m 3), .int .i64 (num m 4), .int .i64 (num m 5)] := rfl
theorem headA_step (m : ByteArray) (j : Nat) (hj : j < 6) : (headA m j).setIfInBounds j (.int .i64 (num m j)) = headA m (j + 1) := by
  rcases (show j = 0 ∨ j = 1 ∨ j = 2 ∨ j = 3 ∨ j = 4 ∨ j = 5 by omega) with rfl | rfl | rfl | rfl | rfl | rfl <;> rfl
/-- What decodeHead answers. -/
def hd (m : ByteArray) (k : Nat) : Int := if 12 ≤ m.size then num m k else 0
def hdV (m : ByteArray) : Value := .tuple #[.agg #[.int .i64 (hd m 0), .int .i64 (hd m 1), .int .i64 (hd m 2), .int .i64 (hd m 3), .int .i64 (hd m 4), .int .i64 (hd m 5)], .bool (decide (12 ≤ m.size))]
theorem hdV_yes {m : ByteArray} (h : 12 ≤ m.size) : hdV m = .tuple #[.agg (headA m 6), .bool true] := by simp [hdV, hd, h, headA, hc]
theorem hdV_no {m : ByteArray} (h : ¬ 12 ≤ m.size) : hdV m = .tuple #[.agg (headA m 0), .bool false] := by simp [hdV, hd, h, headA, hc]
theorem Blk.six {w : World} {G : Nat} {p q r s t u : Value} {ty : TypeId} (h : Blk w G #[p, q, r, s, t, u] ty) :
    (w.cell? ⟨G, 0, none⟩ = some p ∧ w.cell? ⟨G, 1, none⟩ = some q ∧ w.cell? ⟨G, 2, none⟩ = some r ∧ w.cell? ⟨G, 3, none⟩ = some s ∧ w.cell? ⟨G, 4, none⟩ = some t ∧ w.cell? ⟨G, 5, none⟩ = some u) ∧
    (w.frozen? ⟨G, 0, none⟩ = false ∧ w.frozen? ⟨G, 1, none⟩ = false ∧ w.frozen? ⟨G, 2, none⟩ = false ∧ w.frozen? ⟨G, 3, none⟩ = false ∧ w.frozen? ⟨G, 4, none⟩ = false ∧ w.frozen? ⟨G, 5, none⟩ = false) ∧ G < w.heap.size :=
  ⟨⟨h.cell 0, h.cell 1, h.cell 2, h.cell 3, h.cell 4, h.cell 5⟩, ⟨h.frozen 0, h.frozen 1, h.frozen 2, h.frozen 3, h.frozen 4, h.frozen 5⟩, h.lt⟩
theorem Keeps.six {a b : World} (h : Keeps a b) (G : Nat) (hle : a.heap.size ≤ G) (p q r s t u : Value) : Keeps a ((((((b.setCell ⟨G, 0, none⟩ p).setCell ⟨G, 1, none⟩ q).setCell ⟨G, 2, none⟩ r).setCell ⟨G, 3, none⟩ s).setCell ⟨G, 4, none⟩ t).setCell ⟨G, 5, none⟩ u) :=
  (((((h.setC _ hle _).setC _ hle _).setC _ hle _).setC _ hle _).setC _ hle _).setC _ hle _

end Go.Proofs.Ytdlaepfnogmebaa

namespace Go.Proofs.Ytdlaepfnogmebaa
open Go.RowKit

/-- The slice's own block, if it has one, lies between these. -/
def Within (v : Value) (lo hi : Nat) : Prop := ∀ b, v.ownBlock = some b → lo ≤ b ∧ b < hi
theorem OwnsR.within {w : World} {B : Nat} {ty : TypeId} {c : Nat} {v : Value} {l : List (List Value)} (h : OwnsR w B ty c v l) : Within v B w.heap.size := by
  intro b hb
  rcases h.1.2 with ⟨rfl, _⟩ | ⟨g, cap, cur, rfl, hB, hg, _⟩
  · cases hb
  · simp only [Value.ownBlock, Option.some.injEq] at hb
    subst hb
    exact ⟨hB, (Array.getElem?_eq_some_iff.1 hg).1⟩
theorem Within.none (lo hi : Nat) : Within (.slice none 0 0) lo hi := by intro b h; cases h
/-- What comes of a list that is decoded. -/
def ListEnd {α : Type} (w : World) (c : Nat) (f : α → List Value) (d : DL α) (e : Ending) (w' : World) : Prop := ∃ v, e = .returned (.tuple #[v, .int .i64 d.next, .int .i64 d.e]) ∧ ReadRow w' v c (d.xs.map f) ∧ Within v w.heap.size w'.heap.size ∧ Keeps w w'
theorem ListEnd.mk {α : Type} {w : World} {c : Nat} {f : α → List Value} {d : DL α} {w' : World} {v : Value} {n e : Int} (hn : n = d.next) (he : e = d.e) (h : ReadRow w' v c (d.xs.map f)) (hv : Within v w.heap.size w'.heap.size) (k : Keeps w w') : ListEnd w c f d (.returned (.tuple #[v, .int .i64 n, .int .i64 e])) w' := by
  subst hn he
  exact ⟨v, rfl, h, hv, k⟩
theorem decQ_next (m : ByteArray) (p : Nat) (h : (decQ m p).e = 0) : (decQ m p).next ≤ m.size := by
  unfold decQ at h ⊢
  by_cases h1 : (Cm.readL (bl m) p).e = 0
  · rw [if_pos h1] at h ⊢
    by_cases h2 : (Cm.readL (bl m) p).next + 4 ≤ m.size
    · rw [if_pos h2]; exact h2
    · rw [if_neg h2] at h; simp at h
  · rw [if_neg h1] at h; exact absurd h h1
theorem decR1_next (m : ByteArray) (p : Nat) (h : (decR1 m p).e = 0) : (decR1 m p).next ≤ m.size := by
  rcases dec_may m p with ⟨h1, _, _⟩ | ⟨_, _, _, h4, _, _⟩
  · exact absurd h h1
  · exact h4
theorem cells_box (w : World) (A : Array Value) (ty : TypeId) (j : Nat) (u : Value) (h : A.toList[j]? = some u) : (w.alloc (.cells A ty)).cell? ((⟨w.heap.size, 0, none⟩ : Addr).add j) = some u := by
  rw [add_none, Nat.zero_add, World.cell?_alloc_mark]
  simpa using h

end Go.Proofs.Ytdlaepfnogmebaa

namespace Go.Proofs.Ytdlaepfnogmebaa
open Go.RowKit

/-- What Head answers. -/
def headV (m : ByteArray) : Value := .tuple #[.int .i64 (hd m 0), .int .i64 (hd m 1), .bool (decide (12 ≤ m.size))]
theorem hd_yes {m : ByteArray} (h : 12 ≤ m.size) (k : Nat) : hd m k = num m k := if_pos h
theorem hd_no {m : ByteArray} (h : ¬ 12 ≤ m.size) (k : Nat) : hd m k = 0 := if_neg h
end Go.Proofs.Ytdlaepfnogmebaa

namespace Go.Proofs.Ytdlaepfnogmebaa
open Go.RowKit

/-- The value v reads as the message m. -/
def MsAt (w : World) (v : Value) (m : Ms) : Prop :=
  ∃ vq va vn vr, v = .agg #[.int .i64 m.id, .int .i64 m.bits, vq, va, vn, vr] ∧ ReadRow w vq 3 (m.qs.map qnL) ∧ ReadRow w va 5 (m.an.map recL8) ∧ ReadRow w vn 5 (m.ns.map recL8) ∧ ReadRow w vr 5 (m.ar.map recL8)
theorem MsAt.keeps {w w' : World} {v : Value} {m : Ms} (h : MsAt w v m) (k : Keeps w w') : MsAt w' v m := by
  obtain ⟨vq, va, vn, vr, rfl, h1, h2, h3, h4⟩ := h
  exact ⟨vq, va, vn, vr, rfl, h1.keeps k, h2.keeps k, h3.keeps k, h4.keeps k⟩
def noV : Value := .agg #[.int .i64 0, .int .i64 0, .slice none 0 0, .slice none 0 0, .slice none 0 0, .slice none 0 0]
theorem MsAt.none (w : World) : MsAt w noV noMs := ⟨_, _, _, _, rfl, ReadRow.nil, ReadRow.nil, ReadRow.nil, ReadRow.nil⟩
/-- What comes of Decode. -/
def DecEnd (w : World) (d : Ms × Nat) (e : Ending) (w' : World) : Prop := ∃ v, e = .returned (.tuple #[v, .int .i64 d.2]) ∧ MsAt w' v d.1 ∧ Keeps w w'
theorem DecEnd.bad {w w' : World} {d : Ms × Nat} {n : Nat} (h : d = (noMs, n)) (k : Keeps w w') : DecEnd w d (.returned (.tuple #[noV, .int .i64 n])) w' := by
  subst h
  exact ⟨noV, rfl, MsAt.none _, k⟩

theorem decL_next {α : Type} (f : Nat → D1 α) (B : Nat) (hf : ∀ q, (f q).e = 0 → (f q).next ≤ B) : ∀ (k p : Nat), p ≤ B → (decL f k p).next ≤ B
  | 0, p, h => h
  | k + 1, p, h => by
    simp only [decL]
    split
    · rename_i h1
      split
      · exact decL_next f B hf k _ (hf p h1)
      · simp
    · simp
theorem num_small (m : ByteArray) (k : Nat) : ∃ N : Nat, num m k = N ∧ N ≤ 65535 := by
  have := get_small m (2 * k : Nat)
  obtain ⟨N, hN⟩ := Int.eq_ofNat_of_zero_le this.1
  exact ⟨N, hN, by omega⟩
theorem decM_parts (m : ByteArray) (h1 : 12 ≤ m.size) (h2 : m.size ≤ 65535) : ∃ (N2 N3 N4 N5 : Nat) (Q : DL Qn) (A N R : DL Rec),
    (num m 2 = N2 ∧ N2 ≤ 65535) ∧ (num m 3 = N3 ∧ N3 ≤ 65535) ∧ (num m 4 = N4 ∧ N4 ≤ 65535) ∧ (num m 5 = N5 ∧ N5 ≤ 65535) ∧
    Q = decL (decQ m) N2 12 ∧ A = decL (decR1 m) N3 Q.next ∧ N = decL (decR1 m) N4 A.next ∧ R = decL (decR1 m) N5 N.next ∧
    (Q.next ≤ m.size ∧ A.next ≤ m.size ∧ N.next ≤ m.size ∧ R.next ≤ m.size) ∧
    (Q.e ≠ 0 → decM m = (noMs, Q.e)) ∧ (Q.e = 0 → A.e ≠ 0 → decM m = (noMs, A.e)) ∧ (Q.e = 0 → A.e = 0 → N.e ≠ 0 → decM m = (noMs, N.e)) ∧ (Q.e = 0 → A.e = 0 → N.e = 0 → R.e ≠ 0 → decM m = (noMs, R.e)) ∧
    (Q.e = 0 → A.e = 0 → N.e = 0 → R.e = 0 → R.next ≠ m.size → decM m = (noMs, 5)) ∧
    (Q.e = 0 → A.e = 0 → N.e = 0 → R.e = 0 → R.next = m.size → decM m = (⟨num m 0, num m 1, Q.xs, A.xs, N.xs, R.xs⟩, 0)) := by
  obtain ⟨N2, e2, b2⟩ := num_small m 2
  obtain ⟨N3, e3, b3⟩ := num_small m 3
  obtain ⟨N4, e4, b4⟩ := num_small m 4
  obtain ⟨N5, e5, b5⟩ := num_small m 5
  have hM : decM m = decT m := by rw [decM, if_neg (by omega), if_neg (by omega)]
  have q1 := decL_next (decQ m) m.size (decQ_next m) N2 12 h1
  have q2 := decL_next (decR1 m) m.size (decR1_next m) N3 _ q1
  have q3 := decL_next (decR1 m) m.size (decR1_next m) N4 _ q2
  have q4 := decL_next (decR1 m) m.size (decR1_next m) N5 _ q3
  refine ⟨N2, N3, N4, N5, _, _, _, _, ⟨e2, b2⟩, ⟨e3, b3⟩, ⟨e4, b4⟩, ⟨e5, b5⟩, rfl, rfl, rfl, rfl, ⟨q1, q2, q3, q4⟩, ?_, ?_, ?_, ?_, ?_, ?_⟩ <;> rw [hM, decT, e2, e3, e4, e5] <;> simp only [Int.toNat_natCast]
  · intro a; rw [if_pos a]
  · intro a b; rw [if_neg (by simp [a]), if_pos b]
  · intro a b c; rw [if_neg (by simp [a]), if_neg (by simp [b]), if_pos c]
  · intro a b c d; rw [if_neg (by simp [a]), if_neg (by simp [b]), if_neg (by simp [c]), if_pos d]
  · intro a b c d f; rw [if_neg (by simp [a]), if_neg (by simp [b]), if_neg (by simp [c]), if_neg (by simp [d]), if_pos f]
  · intro a b c d f; rw [if_neg (by simp [a]), if_neg (by simp [b]), if_neg (by simp [c]), if_neg (by simp [d]), if_neg (by simp [f])]

theorem ReadRow.other {w : World} {v : Value} {c : Nat} {rows : List (List Value)} (h : ReadRow w v c rows) {M : Nat} (hM : ∀ b, v.ownBlock = some b → b ≠ M) (i : Nat) (u : Value) : ReadRow (w.setCell ⟨M, i, none⟩ u) v c rows := by
  obtain ⟨a, cap, rfl, h2, h3⟩ := h
  refine ⟨a, cap, rfl, h2, fun hp => ?_⟩
  obtain ⟨b, off, rfl, h5, h6⟩ := h3 hp
  have hb : b ≠ M := hM b rfl
  have hh := Below.heap_setCell w ⟨M, i, none⟩ u b hb
  refine ⟨b, off, rfl, by simpa using h5, fun i' hi j hj => ?_⟩
  rw [← h6 i' hi j hj]
  simp only [World.cell?, hh]
theorem ReadRow.six {w : World} {v : Value} {c : Nat} {rows : List (List Value)} (h : ReadRow w v c rows) {G : Nat} (hM : ∀ b, v.ownBlock = some b → b ≠ G) (p q r s t u : Value) :
    ReadRow ((((((w.setCell ⟨G, 0, none⟩ p).setCell ⟨G, 1, none⟩ q).setCell ⟨G, 2, none⟩ r).setCell ⟨G, 3, none⟩ s).setCell ⟨G, 4, none⟩ t).setCell ⟨G, 5, none⟩ u) v c rows :=
  (((((h.other hM 0 p).other hM 1 q).other hM 2 r).other hM 3 s).other hM 4 t).other hM 5 u
/-- The slice's own block is neither of the two. -/
def Off2 (v : Value) (M G : Nat) : Prop := ∀ b, v.ownBlock = some b → b ≠ M ∧ b ≠ G
def nxt4 (a b c d j : Nat) : Nat := if j = 0 then a else if j = 1 then b else if j = 2 then c else d
theorem DecEnd.good {w w' : World} {d : Ms × Nat} {n0 n1 : Int} {q : List Qn} {a n r : List Rec} {vq va vn vr : Value} (h : d = (⟨n0, n1, q, a, n, r⟩, 0)) (hq : ReadRow w' vq 3 (q.map qnL)) (ha : ReadRow w' va 5 (a.map recL8)) (hn : ReadRow w' vn 5 (n.map recL8)) (hr : ReadRow w' vr 5 (r.map recL8)) (k : Keeps w w') :
    DecEnd w d (.returned (.tuple #[.agg #[.int .i64 n0, .int .i64 n1, vq, va, vn, vr], .int .i64 0])) w' := by
  subst h
  exact ⟨_, rfl, ⟨vq, va, vn, vr, rfl, hq, ha, hn, hr⟩, k⟩
end Go.Proofs.Ytdlaepfnogmebaa
