/- Laws on slices of strings: that a call itself makes, or that came in. No condition. -/
import Derived.Test.YthoominldliphaaRows
import Derived.Test.YthoominldliphaaAid
import Derived.Lib.OthersKept
import Derived.Lib.OwnKind
namespace Go.Proofs.Ythoominldliphaa
open Go.RowKit

theorem Try.infoStr : (Try.prog.info? 9).map (fun i => (i.zero, i.size, i.bytes)) = some (some (.string ⟨#[]⟩), 1, 16) := by kernel_rfl

/-- A text as a cell holds it. -/
def sv (x : List UInt8) : Value := .string ⟨x.toArray⟩
def strOf : Value → ByteArray | .string s => s | _ => ⟨#[]⟩

/-- The slice value v, in blocks from B on, holds the texts ls. -/
def OwnsS (w : World) (B : Nat) (v : Value) (ls : List (List UInt8)) : Prop := w.ownsRow B 9 1 v ls.length (ls.map sv)
theorem OwnsS.nil (w : World) (B : Nat) : OwnsS w B (.slice none 0 0) [] := World.ownsRow_nil w B _ _
theorem OwnsS.alloc {w : World} {B : Nat} {v : Value} {l : List (List UInt8)} (h : OwnsS w B v l) (o : Obj) : OwnsS (w.alloc o) B v l := World.ownsRow.alloc h o
theorem OwnsS.drew {w : World} {B : Nat} {v : Value} {l : List (List UInt8)} (h : OwnsS w B v l) : OwnsS w.drew B v l := World.ownsRow.drew h
theorem OwnsS.below {w : World} {B : Nat} {v : Value} {l : List (List UInt8)} (h : OwnsS w B v l) {w' : World} (hb : Below w.heap.size w w') : OwnsS w' B v l := by
  refine ⟨h.1, ?_⟩
  rcases h.2 with hn | ⟨g, cap, cur, rfl, hB, hg, rest⟩
  · exact .inl hn
  · exact .inr ⟨g, cap, cur, rfl, hB, by rw [hb.block g (Array.getElem?_eq_some_iff.1 hg).1]; exact hg, rest⟩
theorem OwnsS.le {w : World} {B B' : Nat} {v : Value} {l : List (List UInt8)} (h : OwnsS w B v l) (hb : B' ≤ B) : OwnsS w B' v l := by
  refine ⟨h.1, ?_⟩
  rcases h.2 with hn | ⟨g, cap, cur, rfl, hB, rest⟩
  · exact .inl hn
  · exact .inr ⟨g, cap, cur, rfl, by omega, rest⟩
theorem sv_oneCell (l : List (List UInt8)) : ∀ u ∈ l.map sv, u.oneCell' = true := by
  intro u hu
  obtain ⟨c, _, rfl⟩ := List.mem_map.1 hu
  rfl

/-- The slice value v leads to the texts ls. -/
def ReadS (w : World) (v : Value) (ls : List (List UInt8)) : Prop :=
  ∃ a cap, v = .slice a ls.length cap ∧ ls.length ≤ cap ∧ ∀ i (h : i < ls.length), ∃ x, a = some x ∧ w.cell? (x.add i) = some (sv ls[i])
theorem OwnsS.read {w : World} {B : Nat} {v : Value} {ls : List (List UInt8)} (h : OwnsS w B v ls) : ReadS w v ls := by
  rcases h.2 with ⟨rfl, hn⟩ | ⟨g, cap, cur, rfl, hB, hg, rest⟩
  · have : ls = [] := List.length_eq_zero_iff.1 hn
    subst this
    exact ⟨none, 0, rfl, by simp, fun i h => by simp at h⟩
  · refine ⟨_, cap, rfl, rest.1, fun i hi => ⟨_, rfl, ?_⟩⟩
    exact World.ownsRow.cells h (by rfl) i _ (by simp [hi])
theorem ReadS.keeps {w w' : World} {v : Value} {ls : List (List UInt8)} (h : ReadS w v ls) (k : Keeps w w') : ReadS w' v ls := by
  obtain ⟨a, cap, rfl, hle, hc⟩ := h
  refine ⟨a, cap, rfl, hle, fun i hi => ?_⟩
  obtain ⟨x, rfl, hx⟩ := hc i hi
  exact ⟨x, rfl, (Below.cell k (World.block_lt_of_cell? w _ hx)).trans hx⟩
theorem ReadS.len {w : World} {v : Value} {ls : List (List UInt8)} (h : ReadS w v ls) : ∃ a cap, v = .slice a ls.length cap := by
  obtain ⟨a, cap, rfl, _, _⟩ := h
  exact ⟨a, cap, rfl⟩
theorem ReadS.parts {w : World} {v : Value} {ls : List (List UInt8)} (h : ReadS w v ls) (hn : 0 < ls.length) :
    ∃ b off cap, v = .slice (some ⟨b, off, none⟩) ls.length cap ∧ b < w.heap.size ∧ (∀ i (h : i < ls.length), w.cell? ⟨b, off + i, none⟩ = some (sv ls[i])) ∧ ls.length ≤ cap := by
  obtain ⟨a, cap, rfl, hle, hc⟩ := h
  obtain ⟨x, rfl, hx⟩ := hc 0 hn
  obtain ⟨b, off, spot⟩ := x
  have hs : spot = none := by simpa [Addr.add] using World.cell?_spot hx
  subst hs
  have hb := World.block_lt_of_cell? w _ hx
  refine ⟨b, off, cap, rfl, by simpa [Addr.add] using hb, fun i hi => ?_, hle⟩
  obtain ⟨y, hy, hz⟩ := hc i hi
  obtain rfl := Option.some.inj hy
  rw [show ((⟨b, off, none⟩ : Addr).add i) = ⟨b, off + i, none⟩ by simp [Addr.add]] at hz
  exact hz

theorem ReadS.mk {w : World} {b off cap n : Nat} {ls : List (List UInt8)} (hn : ls.length = n) (hc : ∀ i (h : i < ls.length), w.cell? ⟨b, off + i, none⟩ = some (sv ls[i])) (hle : n ≤ cap) : ReadS w (.slice (some ⟨b, off, none⟩) n cap) ls := by
  subst hn
  refine ⟨_, cap, rfl, hle, fun i hi => ⟨_, rfl, ?_⟩⟩
  rw [show ((⟨b, off, none⟩ : Addr).add i) = ⟨b, off + i, none⟩ by simp [Addr.add]]
  exact hc i hi
theorem ReadS.none {w : World} {a : Option Addr} {cap : Nat} : ReadS w (.slice a 0 cap) [] := ⟨a, cap, rfl, by simp, fun i h => by simp at h⟩

/-- All that is no row of texts stands as it stood. -/
def OthS (w w' : World) : Prop := Lib.OthersKept 9 none w w'
theorem OthS.iter {w w' : World} (h : OthS w w') {k : Nat} {s : ByteArray} {pos : Nat} (hk : w.heap[k]? = some (.stringIter s pos)) : w'.heap[k]? = some (.stringIter s pos) :=
  h k _ hk (by simp) (fun _ _ e1 => by cases e1)
theorem OwnsS.oth {w w' : World} {B : Nat} {v : Value} {l : List (List UInt8)} (h : OwnsS w B v l) (hg : w.grownBy w' v.ownBlock) : OthS w w' :=
  Lib.OthersKept.grown (Lib.OthersKept.refl _ _ w) hg (Lib.ownsRow_kind h)

/-- 'l = append(l, x)', x a text. -/
theorem wpList_appS (w : World) {ops : Array Oper} {rest : List Oper} {o : Oper} {a : Act} {Q : Exit → Act → World → Prop} (hgd : o.guard = none) (s x : Operand)
    (ho : o.op = .call { callee := .builtin .append, args := #[s, x], argTypes := #[54, 54] })
    (B : Nat) (v : Value) (l : List (List UInt8)) (hs : a.eval s = v) (hown : OwnsS w B v l) (ad : Addr) (c : Nat) (b : List UInt8) (hx : a.eval x = .slice (some ad) 1 c)
    (hcell : w.cell? ad = some (sv b)) (hlen : l.length + 1 ≤ 1099511627776) (hB : B ≤ w.heap.size)
    (h : ∀ v' w', OwnsS w' B v' (l ++ [b]) → Below B w w' → OthS w w' → wpList Try.prog ops Q rest (a.put o.dst v') w') : wpList Try.prog ops Q (o :: rest) a w := by
  obtain ⟨i0, hi, hz0, hz1, hz2⟩ := info_parts Try.infoStr
  refine wpList_append_own w hgd s x 54 ho B 9 i0 (.string ⟨#[]⟩) 1 16 Try.underlying54 hi hz0 hz1 hz2 rfl (by decide) v l.length (l.map sv) hs hown ad 1 c [sv b] hx rfl ?_ (sv_oneCell [b]) ?_ ?_ hB ?_
  · intro j u hu
    match j, hu with
    | 0, hu =>
      simp at hu
      subst hu
      have : ad.add 0 = ad := by simp [Addr.add]
      rw [this]
      exact hcell
  · unfold maxLen; omega
  · omega
  · intro v' w' h2 h3 _
    refine h v' w' ?_ (Below.grown (Below.refl _ _) h3 hB fun k hk => (World.ownsRow.lt hown k hk).1) (OwnsS.oth hown h3)
    unfold OwnsS
    rw [List.length_append, List.map_append]
    exact h2
/-- What the walk is told of the slice that comes in. -/
def IsStrs (w : World) (v : Value) (ls : List (List UInt8)) : Prop := ReadS w v ls ∧ ls.length ≤ maxLen ∧ ∀ x ∈ ls, x.length ≤ maxLen
end Go.Proofs.Ythoominldliphaa
