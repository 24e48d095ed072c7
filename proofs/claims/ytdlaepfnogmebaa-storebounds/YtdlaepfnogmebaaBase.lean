/- Small lemmas that every walk of this seat uses. No condition. Laws on byte slices that a call itself makes: appended to, turned into a string. No condition. Where a rune of more than one byte stands all its bytes are 128 or more. No condition. Laws on slices of strings: that a call itself makes, or that came in. No condition. A slice of texts that a call itself made: one of its texts read, another one stored. No condition. A block of the heap whose cells are all known. No condition. A slice whose elements are some cells each: what it reads. No condition. -/
import Derived.WalkKit
import Derived.WalkSpells
import Derived.WalkLawsBesides
import Derived.Handy
import Derived.Test.YtdlaepfnogmebaaRows
import Derived.Lib.AppendStr
import Derived.Lib.OthersKept
import Derived.Lib.OwnKind
import Derived.Laws.RangeAny
import Derived.ProofKit
import Derived.OpenShut
namespace Go.Proofs.Ytdlaepfnogmebaa
open Go.RowKit

theorem hide {p : Prop} (h : p) : Hid p := h
theorem ret_int {k : IntKind} {a b : Int} (h : a = b) : Ending.returned (.int k a) = .returned (.int k b) := by rw [h]
theorem ret_bool {a b : Bool} (h : a = b) : Ending.returned (.bool a) = .returned (.bool b) := by rw [h]
theorem ret_str {a b : ByteArray} (h : a = b) : Ending.returned (.string a) = .returned (.string b) := by rw [h]
theorem ret_int_bool {k : IntKind} {a b : Int} {c d : Bool} (h : a = b) (g : c = d) : Ending.returned (.tuple #[.int k a, .bool c]) = .returned (.tuple #[.int k b, .bool d]) := by rw [h, g]
theorem ret_str_bool {a b : ByteArray} {c d : Bool} (h : a = b) (g : c = d) : Ending.returned (.tuple #[.string a, .bool c]) = .returned (.tuple #[.string b, .bool d]) := by rw [h, g]

theorem bcell {W w1 : World} (hb : Below W.heap.size W w1) : (∀ b o, b < W.heap.size → w1.cell? ⟨b, o, none⟩ = W.cell? ⟨b, o, none⟩) ∧ (∀ b o, b < W.heap.size → w1.frozen? ⟨b, o, none⟩ = W.frozen? ⟨b, o, none⟩) :=
  ⟨fun b o h => hb.cell (p := ⟨b, o, none⟩) h, fun b o h => hb.frozen (p := ⟨b, o, none⟩) h⟩

/-- Nothing that was there has turned. -/
def Keeps (w w' : World) : Prop := Below w.heap.size w w'
theorem Keeps.refl (w : World) : Keeps w w := Below.refl _ _
theorem Keeps.trans {a b c : World} (h : Keeps a b) (k : Keeps b c) : Keeps a c := Below.trans h (Below.mono k (Below.size h))
theorem Keeps.drew {a b : World} (h : Keeps a b) : Keeps a b.drew := Below.drew h
theorem Keeps.drewN {a b : World} (h : Keeps a b) (n : Nat) : Keeps a (b.drewN n) := below_drewN h n
theorem Keeps.alloc {a b : World} (h : Keeps a b) (o : Obj) : Keeps a (b.alloc o) := Below.alloc h (Below.size h) o

/-- A byte as a cell holds it. -/
def bv (c : UInt8) : Value := .int .u8 (c.toNat : Int)

/-- 'string(b)' of a row that was just made. -/
theorem conv_new {P : Program} (src dst e : TypeId) (hs : P.underlying src = some (.slice e)) (he : P.underlying e = some (.int .u8)) (hd : P.underlying dst = some .string)
    (C : Array Value) (l : List UInt8) (n cap : Nat) (hn : l.length = n) (hC : C.toList = l.map bv) (w : World) :
    (convert src dst (.slice (some ⟨w.heap.size, 0, none⟩) n cap)).run P (w.alloc (.cells C e)) = .ok (.string ⟨l.toArray⟩) (w.alloc (.cells C e)) := by
  subst hn
  refine run_convert_bytes_back _ src dst e _ cap l hs he hd ?_
  intro j hj
  have h := World.cell?_alloc_mark w C e (0, 0) j
  rw [show ((⟨w.heap.size, 0, none⟩ : Addr).add j) = ⟨w.heap.size, j, none⟩ by simp [Addr.add]; omega]
  refine h.trans ?_
  have : C[j]? = C.toList[j]? := by simp
  rw [this, hC]
  simp [hj, bv]
end Go.Proofs.Ytdlaepfnogmebaa

namespace Go.Proofs.Ytdlaepfnogmebaa
open Go.RowKit

theorem Try.infoU8 : (Try.prog.info? 5).map (fun i => (i.zero, i.size, i.bytes)) = some (some (.int .u8 0), 1, 1) := by kernel_rfl

/-- The slice value v, in blocks from B on, holds the bytes l. -/
def Owns (w : World) (B : Nat) (v : Value) (l : List UInt8) : Prop := w.ownsRow B 5 1 v l.length (l.map bv)

theorem Owns.nil (w : World) (B : Nat) : Owns w B (.slice none 0 0) [] := World.ownsRow_nil w B _ _
theorem Owns.alloc {w : World} {B : Nat} {v : Value} {l : List UInt8} (h : Owns w B v l) (o : Obj) : Owns (w.alloc o) B v l := World.ownsRow.alloc h o
theorem Owns.drew {w : World} {B : Nat} {v : Value} {l : List UInt8} (h : Owns w B v l) : Owns w.drew B v l := World.ownsRow.drew h
theorem Owns.below {w : World} {B : Nat} {v : Value} {l : List UInt8} (h : Owns w B v l) {w' : World} (hb : Below w.heap.size w w') : Owns w' B v l := by
  refine ⟨h.1, ?_⟩
  rcases h.2 with hn | ⟨g, cap, cur, rfl, hB, hg, rest⟩
  · exact .inl hn
  · exact .inr ⟨g, cap, cur, rfl, hB, by rw [hb.block g (Array.getElem?_eq_some_iff.1 hg).1]; exact hg, rest⟩
theorem Owns.form {w : World} {B : Nat} {v : Value} {l : List UInt8} (h : Owns w B v l) : ∃ a cap, v = .slice a l.length cap := by
  rcases h.2 with ⟨rfl, hn⟩ | ⟨g, cap, cur, rfl, _⟩
  · exact ⟨none, 0, by rw [hn]⟩
  · exact ⟨_, cap, rfl⟩

theorem bv_oneCell (l : List UInt8) : ∀ u ∈ l.map bv, u.oneCell' = true := by
  intro u hu
  obtain ⟨c, _, rfl⟩ := List.mem_map.1 hu
  rfl

/-- 'string(b)'. -/
theorem Owns.conv {w : World} {B : Nat} {v : Value} {l : List UInt8} (h : Owns w B v l) :
    (convert 180 9 v).run Try.prog w = .ok (.string ⟨l.toArray⟩) w := by
  rcases h.2 with ⟨rfl, hn⟩ | ⟨g, cap, cur, rfl, hB, hg, rest⟩
  · have hl : l = [] := List.length_eq_zero_iff.1 hn
    subst hl
    rw [run_convert_bytes_string w _ _ _ none 0 0 Try.underlying180 Try.underlying5 Try.underlying9]
    simp [Conv.bytesToString]
    rfl
  · refine run_convert_bytes_back w _ _ _ _ cap l Try.underlying180 Try.underlying5 Try.underlying9 ?_
    intro j hj
    exact World.ownsRow.cells h (by rfl) j _ (by simp [hj, bv])

/-- 'len(b)'. -/
theorem Owns.len {w : World} {B : Nat} {v : Value} {l : List UInt8} (h : Owns w B v l) (ty : TypeId) :
    (Builtin.len_ #[180] ty #[v]).run Try.prog w = .ok (goInt l.length) w := by
  obtain ⟨a, cap, rfl⟩ := h.form
  simp [Builtin.len_, run_underlying Try.underlying180]

/-- All that is no row of bytes stands as it stood. -/
def Oth (w w' : World) : Prop := Lib.OthersKept 5 none w w'
theorem Oth.refl (w : World) : Oth w w := Lib.OthersKept.refl _ _ w
theorem Oth.trans {a b c : World} (h : Oth a b) (k : Oth b c) : Oth a c := Lib.OthersKept.trans h k
theorem Oth.alloc {a w : World} (h : Oth a w) (o : Obj) : Oth a (w.alloc o) := Lib.OthersKept.alloc h o
theorem Oth.drew {a w : World} (h : Oth a w) : Oth a w.drew := Lib.OthersKept.drew h
theorem Oth.iter {w w' : World} (h : Oth w w') {k : Nat} {s : ByteArray} {pos : Nat} (hk : w.heap[k]? = some (.stringIter s pos)) : w'.heap[k]? = some (.stringIter s pos) :=
  h k _ hk (by simp) (fun _ _ e1 => by cases e1)
theorem Owns.oth {w w' : World} {B : Nat} {v : Value} {l : List UInt8} (h : Owns w B v l) (hg : w.grownBy w' v.ownBlock) : Oth w w' :=
  Lib.OthersKept.grown (Lib.OthersKept.refl _ _ w) hg (Lib.ownsRow_kind h)

/-- 'b = append(b, x)', x a byte. -/
theorem wpList_app1 (w : World) {ops : Array Oper} {rest : List Oper} {o : Oper} {a : Act} {Q : Exit → Act → World → Prop} (hgd : o.guard = none) (s x : Operand)
    (ho : o.op = .call { callee := .builtin .append, args := #[s, x], argTypes := #[180, 180] })
    (B : Nat) (v : Value) (l : List UInt8) (hs : a.eval s = v) (hown : Owns w B v l) (ad : Addr) (c : Nat) (b : UInt8) (hx : a.eval x = .slice (some ad) 1 c)
    (hcell : w.cell? ad = some (bv b)) (hlen : l.length + 1 ≤ 140737488355328) (hB : B ≤ w.heap.size)
    (h : ∀ v' w', Owns w' B v' (l ++ [b]) → Below B w w' → Oth w w' → wpList Try.prog ops Q rest (a.put o.dst v') w') : wpList Try.prog ops Q (o :: rest) a w := by
  obtain ⟨i0, hi, hz0, hz1, hz2⟩ := info_parts Try.infoU8
  refine wpList_append_own w hgd s x 180 ho B 5 i0 (.int .u8 0) 1 1 Try.underlying180 hi hz0 hz1 hz2 rfl (by decide) v l.length (l.map bv) hs hown ad 1 c [bv b] hx rfl ?_ (bv_oneCell [b]) ?_ ?_ hB ?_
  · intro j u hu
    match j, hu with
    | 0, hu =>
      simp at hu
      subst hu
      have : ad.add 0 = ad := by simp [Addr.add]
      rw [this]
      exact hcell
  · unfold maxLen; omega
  · omega
  · intro v' w' h2 h3 _
    refine h v' w' ?_ (Below.grown (Below.refl _ _) h3 hB fun k hk => (World.ownsRow.lt hown k hk).1) (Owns.oth hown h3)
    unfold Owns
    rw [List.length_append, List.map_append]
    exact h2

/-- 'b = append(b, t...)', t a slice of bytes. -/
theorem wpList_apps (w : World) {ops : Array Oper} {rest : List Oper} {o : Oper} {a : Act} {Q : Exit → Act → World → Prop} (hgd : o.guard = none) (s x : Operand)
    (ho : o.op = .call { callee := .builtin .append, args := #[s, x], argTypes := #[180, 180] })
    (B : Nat) (v : Value) (l : List UInt8) (hs : a.eval s = v) (hown : Owns w B v l) (ad : Addr) (c n : Nat) (t : List UInt8) (hx : a.eval x = .slice (some ad) n c) (hn : t.length = n)
    (hcell : ∀ j (hj : j < t.length), w.cell? (ad.add j) = some (bv t[j])) (hlen : l.length + t.length ≤ 140737488355328) (hB : B ≤ w.heap.size)
    (h : ∀ v' w', Owns w' B v' (l ++ t) → Below B w w' → Oth w w' → wpList Try.prog ops Q rest (a.put o.dst v') w') : wpList Try.prog ops Q (o :: rest) a w := by
  subst hn
  obtain ⟨i0, hi, hz0, hz1, hz2⟩ := info_parts Try.infoU8
  refine wpList_append_own w hgd s x 180 ho B 5 i0 (.int .u8 0) 1 1 Try.underlying180 hi hz0 hz1 hz2 rfl (by decide) v l.length (l.map bv) hs hown ad t.length c (t.map bv) hx (by simp) ?_ (bv_oneCell t) ?_ ?_ hB ?_
  · intro j u hu
    have hj : j < t.length := by have := (List.getElem?_eq_some_iff.1 hu).1; simpa using this
    simp [hj] at hu
    subst hu
    exact hcell j hj
  · unfold maxLen; omega
  · omega
  · intro v' w' h2 h3 _
    refine h v' w' ?_ (Below.grown (Below.refl _ _) h3 hB fun k hk => (World.ownsRow.lt hown k hk).1) (Owns.oth hown h3)
    unfold Owns
    rw [List.length_append, List.map_append]
    exact h2

/-- 'b = append(b, t...)', t a text. -/
theorem wpList_appStr (w : World) {ops : Array Oper} {rest : List Oper} {o : Oper} {a : Act} {Q : Exit → Act → World → Prop} (hgd : o.guard = none) (s x : Operand)
    (ho : o.op = .call { callee := .builtin .append, args := #[s, x], argTypes := #[180, 9] })
    (B : Nat) (v : Value) (l : List UInt8) (hs : a.eval s = v) (hown : Owns w B v l) (t : ByteArray) (hx : a.eval x = .string t)
    (hlen : l.length + t.size ≤ 140737488355328) (hB : B ≤ w.heap.size)
    (h : ∀ v' w', Owns w' B v' (l ++ t.data.toList) → Below B w w' → Oth w w' → wpList Try.prog ops Q rest (a.put o.dst v') w') : wpList Try.prog ops Q (o :: rest) a w := by
  obtain ⟨i0, hi, hz0, hz1, hz2⟩ := info_parts Try.infoU8
  refine Lib.wpList_append_own_string w hgd s x 180 9 ho B 5 i0 Try.underlying180 Try.underlying9 hi hz0 hz1 hz2 v l.length (l.map bv) hs hown t hx ?_ hlen hB ?_
  · unfold maxLen; omega
  · intro v' w' h2 h3 _
    refine h v' w' ?_ (Below.grown (Below.refl _ _) h3 hB fun k hk => (World.ownsRow.lt hown k hk).1) (Owns.oth hown h3)
    unfold Owns
    rw [List.length_append, List.map_append, show t.data.toList.length = t.size by simp]
    exact h2

/-- The first cells of block G are the bytes l, and may be written. -/
def Row (w : World) (G : Nat) (l : List UInt8) : Prop := ∀ j (hj : j < l.length), w.cell? ⟨G, j, none⟩ = some (bv l[j]) ∧ w.frozen? ⟨G, j, none⟩ = false

theorem Row.made (w : World) (s : ByteArray) (cap : Nat) : Row (w.alloc (.cells (bytesRow s cap) 5 ((bytesRow s cap).size, (bytesRow s cap).size + 1))) w.heap.size s.data.toList := by
  intro j hj
  have hj' : j < s.data.size := by simpa using hj
  constructor
  · rw [World.cell?_alloc_mark, bytesRow_at s cap j hj']
    simp [bv]
  · rw [World.frozen?_alloc_mark]
    have : s.data.size ≤ (bytesRow s cap).size := by simp [bytesRow]
    simp
    intro h
    omega
theorem Row.cell {w : World} {G : Nat} {l : List UInt8} (h : Row w G l) (j : Nat) (hj : j < l.length) : w.cell? ⟨G, j, none⟩ = some (bv l[j]) := (h j hj).1
theorem Row.free {w : World} {G : Nat} {l : List UInt8} (h : Row w G l) (j : Nat) (hj : j < l.length) : w.frozen? ⟨G, j, none⟩ = false := (h j hj).2
theorem Row.drew {w : World} {G : Nat} {l : List UInt8} (h : Row w G l) : Row w.drew G l := h
theorem Row.below {w w' : World} {G : Nat} {l : List UInt8} (h : Row w G l) (hG : G < w.heap.size) (hb : Below w.heap.size w w') : Row w' G l := by
  intro j hj
  exact ⟨(hb.cell (p := ⟨G, j, none⟩) hG).trans (h.cell j hj), (hb.frozen (p := ⟨G, j, none⟩) hG).trans (h.free j hj)⟩
theorem Row.set {w : World} {G : Nat} {l : List UInt8} (h : Row w G l) (i : Nat) (c : UInt8) (hi : i < l.length) : Row (w.setCell ⟨G, i, none⟩ (bv c)) G (l.set i c) := by
  intro j hj
  have hj' : j < l.length := by simpa using hj
  have hci := h.cell i hi
  constructor
  · by_cases e : i = j
    · subst e
      rw [World.cell?_setCell_same w ⟨G, i, none⟩ (bv c) hci]
      simp
    · rw [World.cell?_setCell_other w ⟨G, i, none⟩ ⟨G, j, none⟩ (bv c) (by simp), h.cell j hj']
      simp [e]
  · rw [World.frozen?_setCell]
    exact h.free j hj'
/-- 'string(b)' of such a row. -/
theorem Row.conv {w : World} {G : Nat} {l : List UInt8} (h : Row w G l) (n cap : Nat) (hn : l.length = n) :
    (convert 180 9 (.slice (some ⟨G, 0, none⟩) n cap)).run Try.prog w = .ok (.string ⟨l.toArray⟩) w := by
  subst hn
  refine run_convert_bytes_back w _ _ _ _ cap l Try.underlying180 Try.underlying5 Try.underlying9 ?_
  intro j hj
  rw [show ((⟨G, 0, none⟩ : Addr).add j) = ⟨G, j, none⟩ by simp [Addr.add]; omega]
  exact h.cell j hj
end Go.Proofs.Ytdlaepfnogmebaa

namespace Go.Proofs.Ytdlaepfnogmebaa

theorem get_bang (s : ByteArray) (i : Nat) (h : i < s.size) : s.get! i = s[i] := by
  have := Go.get_at s i h
  simpa using this
theorem span1 (s : ByteArray) (p : Nat) (h : p < s.size) (ha : 128 ≤ s[p].toNat) : p + 1 ≤ s.size ∧ ∀ i, p ≤ i → i < p + 1 → ∀ hi : i < s.size, 128 ≤ s[i].toNat :=
  ⟨h, fun i h1 h2 hi => by obtain rfl : i = p := by omega
                           exact ha⟩
theorem cont_high (s : ByteArray) (i : Nat) (h : i < s.size) (hc : (s.get! i).toNat / 64 = 2) : 128 ≤ s[i].toNat := by
  rw [get_bang s i h] at hc
  omega
theorem decode_span (s : ByteArray) (p : Nat) (h : p < s.size) (ha : 128 ≤ s[p].toNat) :
    p + (Utf8.decode s p).2 ≤ s.size ∧ ∀ i, p ≤ i → i < p + (Utf8.decode s p).2 → ∀ hi : i < s.size, 128 ≤ s[i].toNat := by
  have h1 := span1 s p h ha
  unfold Utf8.decode
  simp only []
  split
  · exact h1
  split
  · rename_i hc
    simp only [Bool.and_eq_true, decide_eq_true_eq, beq_iff_eq] at hc
    split
    · refine ⟨by simp; omega, fun i a b hi => ?_⟩
      simp only at b
      rcases (show i = p ∨ i = p + 1 by omega) with rfl | rfl
      · exact ha
      · exact cont_high s _ hi hc.2.2
    · exact h1
  split
  · rename_i hc
    simp only [Bool.and_eq_true, decide_eq_true_eq, beq_iff_eq] at hc
    split
    · refine ⟨by simp; omega, fun i a b hi => ?_⟩
      simp only at b
      rcases (show i = p ∨ i = p + 1 ∨ i = p + 2 by omega) with rfl | rfl | rfl
      · exact ha
      · exact cont_high s _ hi hc.1.2.2
      · exact cont_high s _ hi hc.2.2
    · exact h1
  split
  · rename_i hc
    simp only [Bool.and_eq_true, decide_eq_true_eq, beq_iff_eq] at hc
    split
    · refine ⟨by simp; omega, fun i a b hi => ?_⟩
      simp only at b
      rcases (show i = p ∨ i = p + 1 ∨ i = p + 2 ∨ i = p + 3 by omega) with rfl | rfl | rfl | rfl
      · exact ha
      · exact cont_high s _ hi hc.1.1.2.2
      · exact cont_high s _ hi hc.1.2.2
      · exact cont_high s _ hi hc.2.2
    · exact h1
  · exact h1
end Go.Proofs.Ytdlaepfnogmebaa

namespace Go.Proofs.Ytdlaepfnogmebaa
open Go.RowKit

theorem Try.infoStr : (Try.prog.info? 9).map (fun i => (i.zero, i.size, i.bytes)) = some (some (.string ⟨#[]⟩), 1, 16) := by kernel_rfl

/-- A text as a cell holds it. -/
def sv (x : List UInt8) : Value := .string ⟨x.toArray⟩
def strOf : Value → ByteArray | .string s => s | _ => ⟨#[]⟩

/-- The slice value v, in blocks from B on, holds the texts ls. -/
def OwnsS (w : World) (B : Nat) (v : Value) (ls : List (List UInt8)) : Prop := w.ownsRow B 9 1 v ls.length (ls.map sv)
theorem OwnsS.nil (w : World) (B : Nat) : OwnsS w B (.slice none 0 0) [] := World.ownsRow_nil w B _ _
theorem OwnsS.alloc {w : World} {B : Nat} {v : Value} {l : List (List UInt8)} (h : OwnsS w B v l) (o : Obj) : OwnsS (w.alloc o) B v l := World.ownsRow.alloc h o
theorem OwnsS.drew {w : World} {B : Nat} {v : Value} {l : List (List UInt8)} (h : OwnsS w B v l) : OwnsS w.drew B v l := World.ownsRow.drew h
theorem OwnsS.below {w : World} {B : Nat} {v : Value} {l : List (List UInt8)} (h : OwnsS w B v l) {w' : World} (hb : Below w.heap.size w w') : OwnsS w' B v l := by
  refine ⟨h.1, ?_⟩
  rcases h.2 with hn | ⟨g, cap, cur, rfl, hB, hg, rest⟩
  · exact .inl hn
  · exact .inr ⟨g, cap, cur, rfl, hB, by rw [hb.block g (Array.getElem?_eq_some_iff.1 hg).1]; exact hg, rest⟩
theorem OwnsS.le {w : World} {B B' : Nat} {v : Value} {l : List (List UInt8)} (h : OwnsS w B v l) (hb : B' ≤ B) : OwnsS w B' v l := by
  refine ⟨h.1, ?_⟩
  rcases h.2 with hn | ⟨g, cap, cur, rfl, hB, rest⟩
  · exact .inl hn
  · exact .inr ⟨g, cap, cur, rfl, by omega, rest⟩
theorem sv_oneCell (l : List (List UInt8)) : ∀ u ∈ l.map sv, u.oneCell' = true := by
  intro u hu
  obtain ⟨c, _, rfl⟩ := List.mem_map.1 hu
  rfl

/-- The slice value v leads to the texts ls. -/
def ReadS (w : World) (v : Value) (ls : List (List UInt8)) : Prop :=
  ∃ a cap, v = .slice a ls.length cap ∧ ls.length ≤ cap ∧ ∀ i (h : i < ls.length), ∃ x, a = some x ∧ w.cell? (x.add i) = some (sv ls[i])
theorem OwnsS.read {w : World} {B : Nat} {v : Value} {ls : List (List UInt8)} (h : OwnsS w B v ls) : ReadS w v ls := by
  rcases h.2 with ⟨rfl, hn⟩ | ⟨g, cap, cur, rfl, hB, hg, rest⟩
  · have : ls = [] := List.length_eq_zero_iff.1 hn
    subst this
    exact ⟨none, 0, rfl, by simp, fun i h => by simp at h⟩
  · refine ⟨_, cap, rfl, rest.1, fun i hi => ⟨_, rfl, ?_⟩⟩
    exact World.ownsRow.cells h (by rfl) i _ (by simp [hi])
theorem ReadS.keeps {w w' : World} {v : Value} {ls : List (List UInt8)} (h : ReadS w v ls) (k : Keeps w w') : ReadS w' v ls := by
  obtain ⟨a, cap, rfl, hle, hc⟩ := h
  refine ⟨a, cap, rfl, hle, fun i hi => ?_⟩
  obtain ⟨x, rfl, hx⟩ := hc i hi
  exact ⟨x, rfl, (Below.cell k (World.block_lt_of_cell? w _ hx)).trans hx⟩
theorem ReadS.len {w : World} {v : Value} {ls : List (List UInt8)} (h : ReadS w v ls) : ∃ a cap, v = .slice a ls.length cap := by
  obtain ⟨a, cap, rfl, _, _⟩ := h
  exact ⟨a, cap, rfl⟩
theorem ReadS.parts {w : World} {v : Value} {ls : List (List UInt8)} (h : ReadS w v ls) (hn : 0 < ls.length) :
    ∃ b off cap, v = .slice (some ⟨b, off, none⟩) ls.length cap ∧ b < w.heap.size ∧ (∀ i (h : i < ls.length), w.cell? ⟨b, off + i, none⟩ = some (sv ls[i])) ∧ ls.length ≤ cap := by
  obtain ⟨a, cap, rfl, hle, hc⟩ := h
  obtain ⟨x, rfl, hx⟩ := hc 0 hn
  obtain ⟨b, off, spot⟩ := x
  have hs : spot = none := by simpa [Addr.add] using World.cell?_spot hx
  subst hs
  have hb := World.block_lt_of_cell? w _ hx
  refine ⟨b, off, cap, rfl, by simpa [Addr.add] using hb, fun i hi => ?_, hle⟩
  obtain ⟨y, hy, hz⟩ := hc i hi
  obtain rfl := Option.some.inj hy
  rw [show ((⟨b, off, none⟩ : Addr).add i) = ⟨b, off + i, none⟩ by simp [Addr.add]] at hz
  exact hz

theorem ReadS.mk {w : World} {b off cap n : Nat} {ls : List (List UInt8)} (hn : ls.length = n) (hc : ∀ i (h : i < ls.length), w.cell? ⟨b, off + i, none⟩ = some (sv ls[i])) (hle : n ≤ cap) : ReadS w (.slice (some ⟨b, off, none⟩) n cap) ls := by
  subst hn
  refine ⟨_, cap, rfl, hle, fun i hi => ⟨_, rfl, ?_⟩⟩
  rw [show ((⟨b, off, none⟩ : Addr).add i) = ⟨b, off + i, none⟩ by simp [Addr.add]]
  exact hc i hi
theorem ReadS.none {w : World} {a : Option Addr} {cap : Nat} : ReadS w (.slice a 0 cap) [] := ⟨a, cap, rfl, by simp, fun i h => by simp at h⟩

/-- All that is no row of texts stands as it stood. -/
def OthS (w w' : World) : Prop := Lib.OthersKept 9 none w w'
theorem OthS.iter {w w' : World} (h : OthS w w') {k : Nat} {s : ByteArray} {pos : Nat} (hk : w.heap[k]? = some (.stringIter s pos)) : w'.heap[k]? = some (.stringIter s pos) :=
  h k _ hk (by simp) (fun _ _ e1 => by cases e1)
theorem OwnsS.oth {w w' : World} {B : Nat} {v : Value} {l : List (List UInt8)} (h : OwnsS w B v l) (hg : w.grownBy w' v.ownBlock) : OthS w w' :=
  Lib.OthersKept.grown (Lib.OthersKept.refl _ _ w) hg (Lib.ownsRow_kind h)

/-- 'l = append(l, x)', x a text. -/
theorem wpList_appS (w : World) {ops : Array Oper} {rest : List Oper} {o : Oper} {a : Act} {Q : Exit → Act → World → Prop} (hgd : o.guard = none) (s x : Operand)
    (ho : o.op = .call { callee := .builtin .append, args := #[s, x], argTypes := #[33, 33] })
    (B : Nat) (v : Value) (l : List (List UInt8)) (hs : a.eval s = v) (hown : OwnsS w B v l) (ad : Addr) (c : Nat) (b : List UInt8) (hx : a.eval x = .slice (some ad) 1 c)
    (hcell : w.cell? ad = some (sv b)) (hlen : l.length + 1 ≤ 1099511627776) (hB : B ≤ w.heap.size)
    (h : ∀ v' w', OwnsS w' B v' (l ++ [b]) → Below B w w' → OthS w w' → wpList Try.prog ops Q rest (a.put o.dst v') w') : wpList Try.prog ops Q (o :: rest) a w := by
  obtain ⟨i0, hi, hz0, hz1, hz2⟩ := info_parts Try.infoStr
  refine wpList_append_own w hgd s x 33 ho B 9 i0 (.string ⟨#[]⟩) 1 16 Try.underlying33 hi hz0 hz1 hz2 rfl (by decide) v l.length (l.map sv) hs hown ad 1 c [sv b] hx rfl ?_ (sv_oneCell [b]) ?_ ?_ hB ?_
  · intro j u hu
    match j, hu with
    | 0, hu =>
      simp at hu
      subst hu
      have : ad.add 0 = ad := by simp [Addr.add]
      rw [this]
      exact hcell
  · unfold maxLen; omega
  · omega
  · intro v' w' h2 h3 _
    refine h v' w' ?_ (Below.grown (Below.refl _ _) h3 hB fun k hk => (World.ownsRow.lt hown k hk).1) (OwnsS.oth hown h3)
    unfold OwnsS
    rw [List.length_append, List.map_append]
    exact h2
/-- What the walk is told of the slice that comes in. -/
def IsStrs (w : World) (v : Value) (ls : List (List UInt8)) : Prop := ReadS w v ls ∧ ls.length ≤ maxLen ∧ ∀ x ∈ ls, x.length ≤ maxLen
end Go.Proofs.Ytdlaepfnogmebaa

namespace Go.Proofs.Ytdlaepfnogmebaa
open Go.RowKit

theorem OwnsS.set {w : World} {B g n cap : Nat} {ls : List (List UInt8)} (h : OwnsS w B (.slice (some ⟨g, 0, none⟩) n cap) ls) (hn : ls.length = n) (j : Nat) (y : List UInt8) :
    OwnsS (w.setCell ⟨g, j, none⟩ (sv y)) B (.slice (some ⟨g, 0, none⟩) n cap) (ls.set j y) := by
  subst hn
  have := (World.ownsRow.stored h j (sv y)).1
  unfold OwnsS
  rw [List.length_set, List.map_set]
  exact this
theorem OwnsS.at {w : World} {B g n cap : Nat} {ls : List (List UInt8)} (h : OwnsS w B (.slice (some ⟨g, 0, none⟩) n cap) ls) (hn : ls.length = n) (j : Nat) (hj : j < n) (y : List UInt8) (hy : ls[j]? = some y) :
    w.cell? ⟨g, j, none⟩ = some (sv y) ∧ w.frozen? ⟨g, j, none⟩ = false ∧ B ≤ g := by
  subst hn
  refine ⟨?_, World.ownsRow.frozenAt h j, ?_⟩
  · rw [World.ownsRow.cellAt h j (by omega), List.getElem?_map, hy]; rfl
  · rcases h.2 with ⟨h', _⟩ | ⟨g', cap', cur, h', hb, _⟩
    · cases h'
    · simp only [Value.slice.injEq, Option.some.injEq, Addr.mk.injEq, and_true, true_and] at h'
      omega
theorem OwnsS.shape {w : World} {B : Nat} {v : Value} {ls : List (List UInt8)} (h : OwnsS w B v ls) (hp : 0 < ls.length) : ∃ g cap, v = .slice (some ⟨g, 0, none⟩) ls.length cap := by
  rcases h.2 with ⟨_, hn⟩ | ⟨g, cap, cur, rfl, _⟩
  · omega
  · exact ⟨g, cap, rfl⟩
end Go.Proofs.Ytdlaepfnogmebaa

namespace Go.Proofs.Ytdlaepfnogmebaa
open Go.RowKit

/-- Block G holds just these cells, and may be written. -/
def Blk (w : World) (G : Nat) (cs : Array Value) (ty : TypeId) : Prop := w.heap[G]? = some (.cells cs ty)
theorem Blk.made (w : World) (cs : Array Value) (ty : TypeId) : Blk (w.alloc (.cells cs ty)) w.heap.size cs ty := heap_alloc_new w _
theorem Blk.lt {w : World} {G : Nat} {cs : Array Value} {ty : TypeId} (h : Blk w G cs ty) : G < w.heap.size := by
  rcases Nat.lt_or_ge G w.heap.size with h1 | h1
  · exact h1
  · unfold Blk at h; rw [Array.getElem?_eq_none h1] at h; cases h
theorem Blk.below {w w' : World} {G B : Nat} {cs : Array Value} {ty : TypeId} (h : Blk w G cs ty) (hb : Below B w w') (hG : G < B) : Blk w' G cs ty := (hb.block G hG).trans h
theorem Blk.keeps {w w' : World} {G : Nat} {cs : Array Value} {ty : TypeId} (h : Blk w G cs ty) (k : Keeps w w') : Blk w' G cs ty := h.below k h.lt
theorem Blk.alloc {w : World} {G : Nat} {cs : Array Value} {ty : TypeId} (h : Blk w G cs ty) (o : Obj) : Blk (w.alloc o) G cs ty := h.keeps ((Keeps.refl w).alloc o)
theorem Blk.drew {w : World} {G : Nat} {cs : Array Value} {ty : TypeId} (h : Blk w G cs ty) : Blk w.drew G cs ty := h
theorem Blk.cell {w : World} {G : Nat} {cs : Array Value} {ty : TypeId} (h : Blk w G cs ty) (i : Nat) : w.cell? ⟨G, i, none⟩ = cs[i]? := by
  unfold Blk at h
  simp only [World.cell?, h]
  rfl
theorem Blk.frozen {w : World} {G : Nat} {cs : Array Value} {ty : TypeId} (h : Blk w G cs ty) (i : Nat) : w.frozen? ⟨G, i, none⟩ = false := by
  unfold Blk at h
  simp only [World.frozen?, h]
  simp
theorem Blk.other {w : World} {G : Nat} {cs : Array Value} {ty : TypeId} (h : Blk w G cs ty) {a : Addr} (ha : a.block ≠ G) (u : Value) : Blk (w.setCell a u) G cs ty :=
  (Below.heap_setCell w a u G (fun e => ha e.symm)).trans h
theorem Blk.set {w : World} {G : Nat} {cs : Array Value} {ty : TypeId} (h : Blk w G cs ty) (i : Nat) (u : Value) : Blk (w.setCell ⟨G, i, none⟩ u) G (cs.setIfInBounds i u) ty := by
  have h' := h
  unfold Blk at h ⊢
  simp only [World.setCell, Array.getElem?_modify, h, Option.map_some]
  rfl
theorem Keeps.setC {a b : World} (h : Keeps a b) (p : Addr) (hp : a.heap.size ≤ p.block) (u : Value) : Keeps a (b.setCell p u) := Below.setCell h hp u
end Go.Proofs.Ytdlaepfnogmebaa

namespace Go.Proofs.Ytdlaepfnogmebaa
open Go.ChangeShapes Go.WideShapes Go.ChangeAt Go.RowKit

/-- The slice v reads as these rows, of c cells each. -/
def ReadRow (w : World) (v : Value) (c : Nat) (rows : List (List Value)) : Prop :=
  ∃ a cap, v = .slice a rows.length cap ∧ rows.length ≤ cap ∧ (0 < rows.length → ∃ b off, a = some ⟨b, off, none⟩ ∧ b < w.heap.size ∧ ∀ i (h : i < rows.length) j, j < c → w.cell? ⟨b, off + i * c + j, none⟩ = rows[i][j]?)
theorem ReadRow.keeps {w w' : World} {v : Value} {c : Nat} {rows : List (List Value)} (h : ReadRow w v c rows) (k : Keeps w w') : ReadRow w' v c rows := by
  obtain ⟨a, cap, h1, h2, h3⟩ := h
  refine ⟨a, cap, h1, h2, fun hp => ?_⟩
  obtain ⟨b, off, h4, h5, h6⟩ := h3 hp
  exact ⟨b, off, h4, Nat.lt_of_lt_of_le h5 k.size, fun i hi j hj => (Below.cell k (p := ⟨b, off + i * c + j, none⟩) h5).trans (h6 i hi j hj)⟩
theorem ReadRow.len {w : World} {v : Value} {c : Nat} {rows : List (List Value)} (h : ReadRow w v c rows) : ∃ a cap, v = .slice a rows.length cap := by
  obtain ⟨a, cap, h1, _, _⟩ := h
  exact ⟨a, cap, h1⟩
theorem ReadRow.nil {w : World} {a : Option Addr} {cap c : Nat} : ReadRow w (.slice a 0 cap) c [] := ⟨a, cap, rfl, by simp, fun h => by simp at h⟩
theorem ReadRow.parts {w : World} {a : Option Addr} {n cap c : Nat} {rows : List (List Value)} (h : ReadRow w (.slice a n cap) c rows) (hp : 0 < rows.length) :
    ∃ b off, a = some ⟨b, off, none⟩ ∧ b < w.heap.size ∧ ∀ i (h : i < rows.length) j, j < c → w.cell? ⟨b, off + i * c + j, none⟩ = rows[i][j]? := by
  obtain ⟨a', cap', h1, _, h3⟩ := h
  simp only [Value.slice.injEq] at h1
  obtain ⟨rfl, _, _⟩ := h1
  exact h3 hp
theorem add_none (b o n : Nat) : (⟨b, o, none⟩ : Addr).add n = ⟨b, o + n, none⟩ := by
  simp only [Addr.add]
  split
  · rename_i h; simp_all
  · rfl
theorem cells_get {w : World} {base : Nat} {a : Addr} {n : Nat} {cs : List Value} (h : w.cells? base a n = some cs) : cs.length = n ∧ ∀ j, j < n → w.cell? (a.add j) = cs[j]? := by
  unfold World.cells? at h
  split at h
  · have hl := mapM_some_length h
    simp at hl
    exact ⟨hl, fun j hj => mapM_some_get h j j (by simp [hj])⟩
  · cases h

theorem open_row {α : Type} {H : Type} {enc : TypeId × Value → H} {P : Program} {w : World} {base : Nat} {spare : TypeId → Bool} {held : Bool} {r : Reach} {b0 : Nat} {t e : TypeId} {v : Value} {d : DataW H} {p : List MemPlace}
    (f : α → List Value) (Q : α → Prop) (c : Nat) (hs : P.underlying t = some (.slice e)) (hc : P.cellsOf e = c) (hpos : 0 < c) (hfl : ∀ x, (f x).length = c)
    (hel : ∀ n cs y, cs.length = c → DataW.trod enc P w base spare held n e cs = some y → ∃ x, cs = f x ∧ Q x)
    (hv : Value.okWide P w r b0 t v) (h : DataW.Trod enc P w base spare held t v d p) : ∃ xs : List α, ReadRow w v c (xs.map f) ∧ (∀ x ∈ xs, Q x) ∧ xs.length ≤ maxLen := by
  obtain ⟨a, n, cap, rfl⟩ := okWide_slice hs hv
  obtain ⟨fuel, hf⟩ := h
  rcases DataW.trod_slice hs hf with ⟨hcs, _⟩ | ⟨x, len, cap', elems, rest, m, _, hcs, _, hb, hl, hm, hlen, hell, _, _⟩
  · simp [Value.cells] at hcs
    obtain ⟨rfl, rfl, rfl⟩ := hcs
    exact ⟨[], ReadRow.nil, by simp, by simp⟩
  · simp [Value.cells] at hcs
    obtain ⟨rfl, rfl, rfl⟩ := hcs
    have each : ∀ i : Fin n, ∃ y : α, w.cells? base (x.add (i.val * c)) c = some (f y) ∧ Q y := by
      intro i
      have := hell i.val i.isLt
      rw [List.getElem?_eq_getElem (by omega), Option.bind_eq_some_iff, hc] at this
      obtain ⟨cs, h1, h2⟩ := this
      obtain ⟨y, rfl, hq⟩ := hel _ _ _ (cells_get h1).1 h2
      exact ⟨y, h1, hq⟩
    refine ⟨List.ofFn fun i => Classical.choose (each i), ?_, ?_, by simp; omega⟩
    · refine ⟨some x, cap, by simp, by simpa using hl, fun hp => ?_⟩
      have hn : 0 < n := by simpa using hp
      have h0 := (cells_get (Classical.choose_spec (each ⟨0, hn⟩)).1).2 0 hpos
      have hlen0 := hfl (Classical.choose (each ⟨0, hn⟩))
      rw [List.getElem?_eq_getElem (by omega)] at h0
      obtain ⟨xb, xo, xs⟩ := x
      have hsp : xs = none := by
        cases xs with
        | none => rfl
        | some s =>
          simp only [World.cell?, Addr.add] at h0
          split at h0
          · simp at h0
          · cases h0
      subst hsp
      have hlt := World.block_lt_of_cell? w _ h0
      refine ⟨xb, xo, rfl, by rw [add_none, add_none] at hlt; exact hlt, fun i hi j hj => ?_⟩
      have hi' : i < n := by simpa using hi
      have := (cells_get (Classical.choose_spec (each ⟨i, hi'⟩)).1).2 j hj
      simp only [List.getElem_map, List.getElem_ofFn]
      rw [← this]
      rw [add_none, add_none]
    · intro y hy
      rw [List.mem_ofFn] at hy
      obtain ⟨i, rfl⟩ := hy
      exact (Classical.choose_spec (each i)).2
end Go.Proofs.Ytdlaepfnogmebaa
