/- Laws on byte slices that a call itself makes: appended to, turned into a string. No condition. -/
import Derived.Test.YthoominldliphaaRows
import Derived.Test.YthoominldliphaaAid
import Derived.Lib.AppendStr
import Derived.Lib.OthersKept
import Derived.Lib.OwnKind
namespace Go.Proofs.Ythoominldliphaa
open Go.RowKit

theorem Try.infoU8 : (Try.prog.info? 5).map (fun i => (i.zero, i.size, i.bytes)) = some (some (.int .u8 0), 1, 1) := by kernel_rfl

/-- The slice value v, in blocks from B on, holds the bytes l. -/
def Owns (w : World) (B : Nat) (v : Value) (l : List UInt8) : Prop := w.ownsRow B 5 1 v l.length (l.map bv)

theorem Owns.nil (w : World) (B : Nat) : Owns w B (.slice none 0 0) [] := World.ownsRow_nil w B _ _
theorem Owns.alloc {w : World} {B : Nat} {v : Value} {l : List UInt8} (h : Owns w B v l) (o : Obj) : Owns (w.alloc o) B v l := World.ownsRow.alloc h o
theorem Owns.drew {w : World} {B : Nat} {v : Value} {l : List UInt8} (h : Owns w B v l) : Owns w.drew B v l := World.ownsRow.drew h
theorem Owns.below {w : World} {B : Nat} {v : Value} {l : List UInt8} (h : Owns w B v l) {w' : World} (hb : Below w.heap.size w w') : Owns w' B v l := by
  refine ⟨h.1, ?_⟩
  rcases h.2 with hn | ⟨g, cap, cur, rfl, hB, hg, rest⟩
  · exact .inl hn
  · exact .inr ⟨g, cap, cur, rfl, hB, by rw [hb.block g (Array.getElem?_eq_some_iff.1 hg).1]; exact hg, rest⟩
theorem Owns.form {w : World} {B : Nat} {v : Value} {l : List UInt8} (h : Owns w B v l) : ∃ a cap, v = .slice a l.length cap := by
  rcases h.2 with ⟨rfl, hn⟩ | ⟨g, cap, cur, rfl, _⟩
  · exact ⟨none, 0, by rw [hn]⟩
  · exact ⟨_, cap, rfl⟩

theorem bv_oneCell (l : List UInt8) : ∀ u ∈ l.map bv, u.oneCell' = true := by
  intro u hu
  obtain ⟨c, _, rfl⟩ := List.mem_map.1 hu
  rfl

/-- 'string(b)'. -/
theorem Owns.conv {w : World} {B : Nat} {v : Value} {l : List UInt8} (h : Owns w B v l) :
    (convert 58 9 v).run Try.prog w = .ok (.string ⟨l.toArray⟩) w := by
  rcases h.2 with ⟨rfl, hn⟩ | ⟨g, cap, cur, rfl, hB, hg, rest⟩
  · have hl : l = [] := List.length_eq_zero_iff.1 hn
    subst hl
    rw [run_convert_bytes_string w _ _ _ none 0 0 Try.underlying58 Try.underlying5 Try.underlying9]
    simp [Conv.bytesToString]
    rfl
  · refine run_convert_bytes_back w _ _ _ _ cap l Try.underlying58 Try.underlying5 Try.underlying9 ?_
    intro j hj
    exact World.ownsRow.cells h (by rfl) j _ (by simp [hj, bv])

/-- 'len(b)'. -/
theorem Owns.len {w : World} {B : Nat} {v : Value} {l : List UInt8} (h : Owns w B v l) (ty : TypeId) :
    (Builtin.len_ #[58] ty #[v]).run Try.prog w = .ok (goInt l.length) w := by
  obtain ⟨a, cap, rfl⟩ := h.form
  simp [Builtin.len_, run_underlying Try.underlying58]

/-- All that is no row of bytes stands as it stood. -/
def Oth (w w' : World) : Prop := Lib.OthersKept 5 none w w'
theorem Oth.refl (w : World) : Oth w w := Lib.OthersKept.refl _ _ w
theorem Oth.trans {a b c : World} (h : Oth a b) (k : Oth b c) : Oth a c := Lib.OthersKept.trans h k
theorem Oth.alloc {a w : World} (h : Oth a w) (o : Obj) : Oth a (w.alloc o) := Lib.OthersKept.alloc h o
theorem Oth.drew {a w : World} (h : Oth a w) : Oth a w.drew := Lib.OthersKept.drew h
theorem Oth.iter {w w' : World} (h : Oth w w') {k : Nat} {s : ByteArray} {pos : Nat} (hk : w.heap[k]? = some (.stringIter s pos)) : w'.heap[k]? = some (.stringIter s pos) :=
  h k _ hk (by simp) (fun _ _ e1 => by cases e1)
theorem Owns.oth {w w' : World} {B : Nat} {v : Value} {l : List UInt8} (h : Owns w B v l) (hg : w.grownBy w' v.ownBlock) : Oth w w' :=
  Lib.OthersKept.grown (Lib.OthersKept.refl _ _ w) hg (Lib.ownsRow_kind h)

/-- 'b = append(b, x)', x a byte. -/
theorem wpList_app1 (w : World) {ops : Array Oper} {rest : List Oper} {o : Oper} {a : Act} {Q : Exit → Act → World → Prop} (hgd : o.guard = none) (s x : Operand)
    (ho : o.op = .call { callee := .builtin .append, args := #[s, x], argTypes := #[58, 58] })
    (B : Nat) (v : Value) (l : List UInt8) (hs : a.eval s = v) (hown : Owns w B v l) (ad : Addr) (c : Nat) (b : UInt8) (hx : a.eval x = .slice (some ad) 1 c)
    (hcell : w.cell? ad = some (bv b)) (hlen : l.length + 1 ≤ 140737488355328) (hB : B ≤ w.heap.size)
    (h : ∀ v' w', Owns w' B v' (l ++ [b]) → Below B w w' → Oth w w' → wpList Try.prog ops Q rest (a.put o.dst v') w') : wpList Try.prog ops Q (o :: rest) a w := by
  obtain ⟨i0, hi, hz0, hz1, hz2⟩ := info_parts Try.infoU8
  refine wpList_append_own w hgd s x 58 ho B 5 i0 (.int .u8 0) 1 1 Try.underlying58 hi hz0 hz1 hz2 rfl (by decide) v l.length (l.map bv) hs hown ad 1 c [bv b] hx rfl ?_ (bv_oneCell [b]) ?_ ?_ hB ?_
  · intro j u hu
    match j, hu with
    | 0, hu =>
      simp at hu
      subst hu
      have : ad.add 0 = ad := by simp [Addr.add]
      rw [this]
      exact hcell
  · unfold maxLen; omega
  · omega
  · intro v' w' h2 h3 _
    refine h v' w' ?_ (Below.grown (Below.refl _ _) h3 hB fun k hk => (World.ownsRow.lt hown k hk).1) (Owns.oth hown h3)
    unfold Owns
    rw [List.length_append, List.map_append]
    exact h2

/-- 'b = append(b, t...)', t a slice of bytes. -/
theorem wpList_apps (w : World) {ops : Array Oper} {rest : List Oper} {o : Oper} {a : Act} {Q : Exit → Act → World → Prop} (hgd : o.guard = none) (s x : Operand)
    (ho : o.op = .call { callee := .builtin .append, args := #[s, x], argTypes := #[58, 58] })
    (B : Nat) (v : Value) (l : List UInt8) (hs : a.eval s = v) (hown : Owns w B v l) (ad : Addr) (c n : Nat) (t : List UInt8) (hx : a.eval x = .slice (some ad) n c) (hn : t.length = n)
    (hcell : ∀ j (hj : j < t.length), w.cell? (ad.add j) = some (bv t[j])) (hlen : l.length + t.length ≤ 140737488355328) (hB : B ≤ w.heap.size)
    (h : ∀ v' w', Owns w' B v' (l ++ t) → Below B w w' → Oth w w' → wpList Try.prog ops Q rest (a.put o.dst v') w') : wpList Try.prog ops Q (o :: rest) a w := by
  subst hn
  obtain ⟨i0, hi, hz0, hz1, hz2⟩ := info_parts Try.infoU8
  refine wpList_append_own w hgd s x 58 ho B 5 i0 (.int .u8 0) 1 1 Try.underlying58 hi hz0 hz1 hz2 rfl (by decide) v l.length (l.map bv) hs hown ad t.length c (t.map bv) hx (by simp) ?_ (bv_oneCell t) ?_ ?_ hB ?_
  · intro j u hu
    have hj : j < t.length := by have := (List.getElem?_eq_some_iff.1 hu).1; simpa using this
    simp [hj] at hu
    subst hu
    exact hcell j hj
  · unfold maxLen; omega
  · omega
  · intro v' w' h2 h3 _
    refine h v' w' ?_ (Below.grown (Below.refl _ _) h3 hB fun k hk => (World.ownsRow.lt hown k hk).1) (Owns.oth hown h3)
    unfold Owns
    rw [List.length_append, List.map_append]
    exact h2

/-- 'b = append(b, t...)', t a text. -/
theorem wpList_appStr (w : World) {ops : Array Oper} {rest : List Oper} {o : Oper} {a : Act} {Q : Exit → Act → World → Prop} (hgd : o.guard = none) (s x : Operand)
    (ho : o.op = .call { callee := .builtin .append, args := #[s, x], argTypes := #[58, 9] })
    (B : Nat) (v : Value) (l : List UInt8) (hs : a.eval s = v) (hown : Owns w B v l) (t : ByteArray) (hx : a.eval x = .string t)
    (hlen : l.length + t.size ≤ 140737488355328) (hB : B ≤ w.heap.size)
    (h : ∀ v' w', Owns w' B v' (l ++ t.data.toList) → Below B w w' → Oth w w' → wpList Try.prog ops Q rest (a.put o.dst v') w') : wpList Try.prog ops Q (o :: rest) a w := by
  obtain ⟨i0, hi, hz0, hz1, hz2⟩ := info_parts Try.infoU8
  refine Lib.wpList_append_own_string w hgd s x 58 9 ho B 5 i0 Try.underlying58 Try.underlying9 hi hz0 hz1 hz2 v l.length (l.map bv) hs hown t hx ?_ hlen hB ?_
  · unfold maxLen; omega
  · intro v' w' h2 h3 _
    refine h v' w' ?_ (Below.grown (Below.refl _ _) h3 hB fun k hk => (World.ownsRow.lt hown k hk).1) (Owns.oth hown h3)
    unfold Owns
    rw [List.length_append, List.map_append, show t.data.toList.length = t.size by simp]
    exact h2

/-- The first cells of block G are the bytes l, and may be written. -/
def Row (w : World) (G : Nat) (l : List UInt8) : Prop := ∀ j (hj : j < l.length), w.cell? ⟨G, j, none⟩ = some (bv l[j]) ∧ w.frozen? ⟨G, j, none⟩ = false

theorem Row.made (w : World) (s : ByteArray) (cap : Nat) : Row (w.alloc (.cells (bytesRow s cap) 5 ((bytesRow s cap).size, (bytesRow s cap).size + 1))) w.heap.size s.data.toList := by
  intro j hj
  have hj' : j < s.data.size := by simpa using hj
  constructor
  · rw [World.cell?_alloc_mark, bytesRow_at s cap j hj']
    simp [bv]
  · rw [World.frozen?_alloc_mark]
    have : s.data.size ≤ (bytesRow s cap).size := by simp [bytesRow]
    simp
    intro h
    omega
theorem Row.cell {w : World} {G : Nat} {l : List UInt8} (h : Row w G l) (j : Nat) (hj : j < l.length) : w.cell? ⟨G, j, none⟩ = some (bv l[j]) := (h j hj).1
theorem Row.free {w : World} {G : Nat} {l : List UInt8} (h : Row w G l) (j : Nat) (hj : j < l.length) : w.frozen? ⟨G, j, none⟩ = false := (h j hj).2
theorem Row.drew {w : World} {G : Nat} {l : List UInt8} (h : Row w G l) : Row w.drew G l := h
theorem Row.below {w w' : World} {G : Nat} {l : List UInt8} (h : Row w G l) (hG : G < w.heap.size) (hb : Below w.heap.size w w') : Row w' G l := by
  intro j hj
  exact ⟨(hb.cell (p := ⟨G, j, none⟩) hG).trans (h.cell j hj), (hb.frozen (p := ⟨G, j, none⟩) hG).trans (h.free j hj)⟩
theorem Row.set {w : World} {G : Nat} {l : List UInt8} (h : Row w G l) (i : Nat) (c : UInt8) (hi : i < l.length) : Row (w.setCell ⟨G, i, none⟩ (bv c)) G (l.set i c) := by
  intro j hj
  have hj' : j < l.length := by simpa using hj
  have hci := h.cell i hi
  constructor
  · by_cases e : i = j
    · subst e
      rw [World.cell?_setCell_same w ⟨G, i, none⟩ (bv c) hci]
      simp
    · rw [World.cell?_setCell_other w ⟨G, i, none⟩ ⟨G, j, none⟩ (bv c) (by simp), h.cell j hj']
      simp [e]
  · rw [World.frozen?_setCell]
    exact h.free j hj'
/-- 'string(b)' of such a row. -/
theorem Row.conv {w : World} {G : Nat} {l : List UInt8} (h : Row w G l) (n cap : Nat) (hn : l.length = n) :
    (convert 58 9 (.slice (some ⟨G, 0, none⟩) n cap)).run Try.prog w = .ok (.string ⟨l.toArray⟩) w := by
  subst hn
  refine run_convert_bytes_back w _ _ _ _ cap l Try.underlying58 Try.underlying5 Try.underlying9 ?_
  intro j hj
  rw [show ((⟨G, 0, none⟩ : Addr).add j) = ⟨G, j, none⟩ by simp [Addr.add]; omega]
  exact h.cell j hj
end Go.Proofs.Ythoominldliphaa
