/- What strings.Join of Go's library answers where nothing is laid between the texts: the library's own contract, at this program. No condition. Plain functions on bytes: what layer 5 tells. No condition. What areTexts and shapes of layer 5 answer, for every input. What join of layer 5 answers, for every data taken apart. What take of layer 5 answers, for every input. What split of layer 5 answers, for every input. What Expand, splitWhole, Check, Names of layer 5 answer, for every input. What Check, Names, Low of layer 5 answer, for every input. What the document's shape, texts, Expand, Check of layer 5 answer. What the document's Expand and Check of layer 5 answer. What the document's Expand of layer 5 answers for a type that has a shape. What the document's Expand and Check of layer 5 answer. What the document's Names of layer 5 answers. What the document's Low of layer 5 answers. -/
import Derived.Shelf.Strings.OnBuilder
import Derived.Test.YtafkpdjcfokgbaaRows
import Derived.Test.YtafkpdjcfokgbaaBase
import Derived.Test.YtafkpdjcfokgbaaNames
import Derived.Test.YtafkpdjcfokgbaaComp
import Derived.Deep.RegionHeld3
namespace Go.Proofs.Ytafkpdjcfokgbaa
open Go.Shelf Go.RowKit

theorem join_flat (xs : List (List UInt8)) : Lib.join xs [] = xs.flatten := by
  cases xs with
  | nil => rfl
  | cons x r =>
    rw [Lib.join_cons, Lib.joinTail]
    simp
end Go.Proofs.Ytafkpdjcfokgbaa

namespace Go.Proofs.Ytafkpdjcfokgbaa.Dt
open Go.Proofs.Ytafkpdjcfokgbaa.Nm (lowL okL)

/-- How many bytes ahead of names, how many names, how many bytes behind. -/
structure Sh where
  a : Nat
  n : Nat
  b : Nat
  deriving DecidableEq
/-- The shape of a type that has names, or a size. -/
def shp (k : Int) : Option Sh :=
  if k = 1 then some ⟨4, 0, 0⟩ else if k = 2 then some ⟨0, 1, 0⟩ else if k = 5 then some ⟨0, 1, 0⟩ else if k = 6 then some ⟨0, 2, 20⟩
  else if k = 12 then some ⟨0, 1, 0⟩ else if k = 15 then some ⟨2, 1, 0⟩ else if k = 28 then some ⟨16, 0, 0⟩ else if k = 33 then some ⟨6, 1, 0⟩ else none

/-- Where texts end that stand one behind the other from p on. By fuel. -/
def tx (l : List UInt8) : Nat → Nat → Nat
  | 0, p => p
  | f + 1, p => match l[p]? with
    | none => p
    | some c => tx l f (p + (1 + c.toNat))
def txm (l : List UInt8) (p : Nat) : Nat := tx l (l.length - p + 1) p
def textsB (l : List UInt8) : Bool := decide (0 < txm l 0) && decide (txm l 0 = l.length)
theorem tx_fuel (l : List UInt8) (f : Nat) : ∀ (g p : Nat), l.length - p < f → l.length - p < g → tx l f p = tx l g p := by
  induction f with
  | zero => intro g p h; omega
  | succ f ih =>
    intro g p h1 h2
    obtain ⟨g, rfl⟩ : ∃ g', g = g' + 1 := ⟨g - 1, by omega⟩
    simp only [tx]
    split
    · rfl
    · rename_i c hc
      have := (List.getElem?_eq_some_iff.1 hc).1
      exact ih g _ (by omega) (by omega)
theorem txm_end {l : List UInt8} {p : Nat} (h : l.length ≤ p) : txm l p = p := by
  simp only [txm, tx, List.getElem?_eq_none h]
theorem txm_step {l : List UInt8} {p : Nat} {c : UInt8} (h : l[p]? = some c) : txm l p = txm l (p + (1 + c.toNat)) := by
  have := (List.getElem?_eq_some_iff.1 h).1
  conv => lhs; simp only [txm, tx, h]
  exact tx_fuel l _ _ _ (by omega) (by omega)

/-- Names that stand one behind the other from p on, and the place behind them. -/
def rds (l : List UInt8) : Nat → Nat → Option (List (List UInt8) × Nat)
  | 0, p => some ([], p)
  | k + 1, p => if (Cm.readL l p).e = 0 then (rds l k (Cm.readL l p).next).map (fun x => ((Cm.readL l p).n :: x.1, x.2)) else none
def part (l : List UInt8) (p n : Nat) : List UInt8 := (l.drop p).take n
/-- Data taken apart. -/
structure Pt where
  a : List UInt8
  ns : List (List UInt8)
  b : List UInt8
  deriving DecidableEq
def Pt.join (p : Pt) : List UInt8 := p.a ++ p.ns.flatten ++ p.b
def takeL (l : List UInt8) (p e : Nat) (s : Sh) : Option Pt :=
  if p + s.a ≤ l.length then
    match rds l s.n (p + s.a) with
    | none => none
    | some (ns, q) => if q + s.b = e then some ⟨part l p s.a, ns, part l q s.b⟩ else none
  else none
def splitL (l : List UInt8) (p n : Nat) (k : Int) : Option Pt :=
  if 65535 < n then none
  else match shp k with
    | some s => takeL l p (p + n) s
    | none => if k = 16 ∧ textsB (part l p n) = false then none else some ⟨part l p n, [], []⟩
def wholeL (k : Int) (d : List UInt8) : Option Pt :=
  match splitL d 0 d.length k with
  | none => none
  | some p => if p.join = d then some p else none
def checkB (k : Int) (d : List UInt8) : Bool := (wholeL k d).isSome
def namesL (k : Int) (d : List UInt8) : List (List UInt8) := match wholeL k d with | none => [] | some p => p.ns
def lowD (k : Int) (d : List UInt8) : List UInt8 := match wholeL k d with | none => [] | some p => p.a ++ (p.ns.map lowL).flatten ++ p.b
/-- What Expand answers. -/
structure ER where
  d : List UInt8
  e : Nat
  deriving DecidableEq
def inside (l : List UInt8) (p n : Int) : Bool := decide (0 ≤ p ∧ 0 ≤ n ∧ n ≤ (l.length : Int) - p)
def expL (l : List UInt8) (p n k : Int) : ER :=
  if inside l p n = true then
    match splitL l p.toNat n.toNat k with
    | none => ⟨[], 4⟩
    | some x => ⟨x.join, 0⟩
  else ⟨[], 2⟩

theorem part_length {l : List UInt8} {p n : Nat} (h : p + n ≤ l.length) : (part l p n).length = n := by
  rw [part, List.length_take, List.length_drop]; omega
theorem shp_small {k : Int} {s : Sh} (h : shp k = some s) : s.a ≤ 16 ∧ s.n ≤ 2 ∧ s.b ≤ 20 := by
  unfold shp at h
  repeat' split at h
  all_goals first | (cases h; simp) | cases h
theorem ok_len {n : List UInt8} (h : okL n = true) : 1 ≤ n.length ∧ n.length ≤ 255 := ⟨Nm.ok_pos h, ((Nm.okL_spec n).1 h).1⟩

/-- What names are read. -/
theorem rds_good (l : List UInt8) : ∀ (k p : Nat) (ns : List (List UInt8)) (q : Nat), p ≤ l.length → rds l k p = some (ns, q) → ns.length = k ∧ (∀ n ∈ ns, okL n = true) ∧ p ≤ q ∧ q ≤ l.length
  | 0, p, ns, q, hp, h => by
    simp only [rds, Option.some.injEq, Prod.mk.injEq] at h
    obtain ⟨rfl, rfl⟩ := h
    simp [hp]
  | k + 1, p, ns, q, hp, h => by
    simp only [rds] at h
    split at h
    · rename_i he
      rcases Cm.read_names l p with h1 | h1 | ⟨n, m, h1, h2, h3, h4, h5⟩
      · rw [h1] at he; simp [Cm.bad] at he
      · rw [h1] at he; simp [Cm.bad] at he
      · rw [h1] at h
        simp only [Option.map_eq_some_iff, Prod.mk.injEq] at h
        obtain ⟨⟨ns', q'⟩, h6, h7, h8⟩ := h
        simp only at h6 h7 h8
        have ih := rds_good l k m ns' q' h5 h6
        subst h7 h8
        refine ⟨by simp [ih.1], ?_, by omega, ih.2.2.2⟩
        intro x hx
        rcases List.mem_cons.1 hx with rfl | hx
        · exact h2
        · exact ih.2.1 x hx
    · cases h
/-- Names that stand whole are read as they stand. -/
theorem rds_whole (l : List UInt8) : ∀ (ns : List (List UInt8)) (p : Nat) (r : List UInt8), (∀ n ∈ ns, okL n = true) → l.drop p = ns.flatten ++ r → rds l ns.length p = some (ns, p + ns.flatten.length)
  | [], p, r, _, _ => by simp [rds]
  | n :: ns, p, r, h, hd => by
    simp only [List.flatten_cons, List.append_assoc] at hd
    have h1 := Cm.read_whole l n (ns.flatten ++ r) p (h n (by simp)) hd
    have h2 : l.drop (p + n.length) = ns.flatten ++ r := by
      rw [← List.drop_drop, hd, List.drop_left]
    have h3 := rds_whole l ns (p + n.length) r (fun x hx => h x (by simp [hx])) h2
    simp only [List.length_cons, rds, h1, if_true, h3, Option.map_some, List.flatten_cons, List.length_append, Nat.add_assoc]

theorem flatten_bound : ∀ (ns : List (List UInt8)), (∀ n ∈ ns, okL n = true) → ns.flatten.length ≤ 255 * ns.length
  | [], _ => by simp
  | n :: ns, h => by
    have := (ok_len (h n (by simp))).2
    have := flatten_bound ns (fun x hx => h x (by simp [hx]))
    simp only [List.flatten_cons, List.length_append, List.length_cons]
    omega
/-- What has a type's shape. -/
def Fits (s : Sh) (x : Pt) : Prop := x.a.length = s.a ∧ x.ns.length = s.n ∧ (∀ n ∈ x.ns, okL n = true) ∧ x.b.length = s.b
theorem takeL_fits {l : List UInt8} {p e : Nat} {s : Sh} {x : Pt} (he : e ≤ l.length) (h : takeL l p e s = some x) : Fits s x := by
  unfold takeL at h
  split at h
  · rename_i hp
    split at h
    · cases h
    · rename_i ns q hr
      split at h
      · rename_i hq
        cases h
        have g := rds_good l _ _ _ _ hp hr
        exact ⟨part_length hp, g.1, g.2.1, part_length (by omega)⟩
      · cases h
  · cases h
theorem fits_small {k : Int} {s : Sh} {x : Pt} (hs : shp k = some s) (h : Fits s x) : x.join.length ≤ 600 ∧ x.ns.length ≤ 2 := by
  have h1 := shp_small hs
  have h2 := flatten_bound x.ns h.2.2.1
  simp only [Pt.join, List.length_append]
  have := h.1
  have := h.2.1
  have := h.2.2.2
  omega
/-- What stands whole is taken apart as it stands. -/
theorem takeL_whole {s : Sh} {x : Pt} (h : Fits s x) : takeL x.join 0 x.join.length s = some x := by
  obtain ⟨h1, h2, h3, h4⟩ := h
  have hl : x.join.length = s.a + x.ns.flatten.length + s.b := by simp only [Pt.join, List.length_append]; omega
  have hd : x.join.drop s.a = x.ns.flatten ++ x.b := by rw [Pt.join, List.append_assoc, ← h1, List.drop_left]
  have hr := rds_whole x.join x.ns s.a x.b h3 hd
  rw [h2] at hr
  have ha : part x.join 0 s.a = x.a := by rw [part, List.drop_zero, Pt.join, List.append_assoc, ← h1, List.take_left]
  have hb : part x.join (s.a + x.ns.flatten.length) s.b = x.b := by
    rw [part, ← List.drop_drop, hd, List.drop_left, ← h4, List.take_length]
  simp only [takeL, Nat.zero_add]
  rw [if_pos (by omega), hr]
  simp only [hl, if_true, ha, hb]
theorem wholeL_shape {k : Int} {s : Sh} {x : Pt} (hs : shp k = some s) (h : Fits s x) : wholeL k x.join = some x := by
  have hb := (fits_small hs h).1
  have h1 : splitL x.join 0 x.join.length k = some x := by
    rw [splitL, if_neg (by omega), hs]
    simp only [Nat.zero_add]
    exact takeL_whole h
  rw [wholeL, h1]
  simp
theorem splitL_parts {l : List UInt8} {p n : Nat} {k : Int} {x : Pt} (hp : p + n ≤ l.length) (h : splitL l p n k = some x) :
    (∃ s, shp k = some s ∧ Fits s x) ∨ (shp k = none ∧ n ≤ 65535 ∧ x = ⟨part l p n, [], []⟩ ∧ (k = 16 → textsB (part l p n) = true)) := by
  unfold splitL at h
  split at h
  · cases h
  · rename_i hn
    split at h
    · rename_i s hs
      exact .inl ⟨s, hs, takeL_fits hp h⟩
    · rename_i hs
      split at h
      · cases h
      · rename_i ht
        cases h
        refine .inr ⟨hs, by omega, rfl, fun hk => ?_⟩
        cases hb : textsB (part l p n)
        · exact absurd ⟨hk, hb⟩ ht
        · rfl
theorem wholeL_plain {k : Int} {d : List UInt8} (hs : shp k = none) (hn : d.length ≤ 65535) (ht : k = 16 → textsB d = true) : wholeL k d = some ⟨d, [], []⟩ := by
  have hp : part d 0 d.length = d := by rw [part, List.drop_zero, List.take_length]
  have h1 : splitL d 0 d.length k = some ⟨d, [], []⟩ := by
    rw [splitL, if_neg (by omega), hs]
    simp only [hp]
    rw [if_neg]
    intro h
    rw [ht h.1] at h
    exact absurd h.2 (by simp)
  rw [wholeL, h1]
  simp [Pt.join]
theorem wholeL_join {k : Int} {d : List UInt8} {x : Pt} (h : wholeL k d = some x) : x.join = d ∧ splitL d 0 d.length k = some x := by
  unfold wholeL at h
  split at h
  · cases h
  · rename_i p hp
    split at h
    · rename_i he
      cases h
      exact ⟨he, hp⟩
    · cases h
theorem wholeL_parts {k : Int} {d : List UInt8} {x : Pt} (h : wholeL k d = some x) :
    x.join = d ∧ ((∃ s, shp k = some s ∧ Fits s x) ∨ (shp k = none ∧ d.length ≤ 65535 ∧ x = ⟨d, [], []⟩ ∧ (k = 16 → textsB d = true))) := by
  obtain ⟨h1, h2⟩ := wholeL_join h
  refine ⟨h1, ?_⟩
  have hp : part d 0 d.length = d := by rw [part, List.drop_zero, List.take_length]
  have := splitL_parts (by omega) h2
  rw [hp] at this
  exact this
/-- What is taken apart has its type's shape. -/
theorem split_whole {l : List UInt8} {p n : Nat} {k : Int} {x : Pt} (hp : p + n ≤ l.length) (h : splitL l p n k = some x) : wholeL k x.join = some x := by
  rcases splitL_parts hp h with ⟨s, hs, hf⟩ | ⟨hs, hn, rfl, ht⟩
  · exact wholeL_shape hs hf
  · have hj : (Pt.mk (part l p n) [] []).join = part l p n := by simp [Pt.join]
    rw [hj]
    exact wholeL_plain hs (by rw [part_length hp]; exact hn) ht
theorem split_len {l : List UInt8} {p n : Nat} {k : Int} {x : Pt} (hp : p + n ≤ l.length) (h : splitL l p n k = some x) : x.join.length ≤ 65535 ∧ x.ns.length ≤ 2 ∧ (∀ m ∈ x.ns, okL m = true) := by
  rcases splitL_parts hp h with ⟨s, hs, hf⟩ | ⟨hs, hn, rfl, ht⟩
  · have := fits_small hs hf
    exact ⟨by omega, this.2, hf.2.2.1⟩
  · refine ⟨?_, by simp, by simp⟩
    simp only [Pt.join, List.flatten_nil, List.append_nil, part_length hp]
    exact hn
/-- In small letters it has its shape, too. -/
def Pt.low (x : Pt) : Pt := ⟨x.a, x.ns.map lowL, x.b⟩
theorem map_low_ok {ns : List (List UInt8)} (h : ∀ n ∈ ns, okL n = true) : ∀ n ∈ ns.map lowL, okL n = true := by
  intro n hn
  obtain ⟨m, hm, rfl⟩ := List.mem_map.1 hn
  rw [Nm.ok_low]
  exact h m hm
theorem low_whole {k : Int} {d : List UInt8} {x : Pt} (h : wholeL k d = some x) : wholeL k x.low.join = some x.low := by
  obtain ⟨h1, ⟨s, hs, hf⟩ | ⟨hs, hn, rfl, ht⟩⟩ := wholeL_parts h
  · exact wholeL_shape hs ⟨hf.1, by simp [Pt.low, hf.2.1], map_low_ok hf.2.2.1, hf.2.2.2⟩
  · have e : (Pt.mk d [] []).low = ⟨d, [], []⟩ := rfl
    rw [e, h1]
    exact h
theorem flatten_low : ∀ (ns : List (List UInt8)), (ns.map lowL).flatten.length = ns.flatten.length
  | [] => rfl
  | n :: ns => by
    have := flatten_low ns
    simp only [List.map_cons, List.flatten_cons, List.length_append, Nm.lowL_length, this]
theorem low_length (x : Pt) : x.low.join.length = x.join.length := by
  simp only [Pt.join, Pt.low, List.length_append, flatten_low]
theorem low_twice (x : Pt) : x.low.low = x.low := by
  simp only [Pt.low, List.map_map]
  congr 1
  refine List.map_congr_left fun n _ => ?_
  exact Nm.lowL_twice n
theorem whole_names {k : Int} {d : List UInt8} {x : Pt} (h : wholeL k d = some x) : x.ns.length ≤ 2 ∧ (∀ m ∈ x.ns, okL m = true) ∧ d.length ≤ 65535 := by
  obtain ⟨h1, h2⟩ := wholeL_join h
  have := split_len (by omega) h2
  rw [h1] at this
  exact ⟨this.2.1, this.2.2, this.1⟩
end Go.Proofs.Ytafkpdjcfokgbaa.Dt

namespace Go.Proofs.Ytafkpdjcfokgbaa
open Go.RowKit

theorem bl_at? (s : ByteArray) (p : Nat) (h : p < s.size) : (bl s)[p]? = some s[p] := by
  rw [List.getElem?_eq_getElem (by rw [bl_length]; exact h)]; rfl

theorem textsB_end (n : ByteArray) (p : Nat) (h : Dt.txm (bl n) 0 = p) : Dt.textsB (bl n) = (decide (0 < (p : Int)) && ((p : Int) == (n.size : Int))) := by
  rw [Bool.eq_iff_iff]
  simp only [Dt.textsB, h, bl_length, Bool.and_eq_true, decide_eq_true_eq, beq_iff_eq]
  omega

/-- A shape as a value. -/
def shV (s : Dt.Sh) (t : Bool) : Value := .agg #[.int .i64 s.a, .int .i64 s.n, .int .i64 s.b, .bool t]
def shEs : Array MapEntry := #[⟨.int .i64 1, shV ⟨4, 0, 0⟩ false, 0⟩, ⟨.int .i64 2, shV ⟨0, 1, 0⟩ false, 1⟩, ⟨.int .i64 5, shV ⟨0, 1, 0⟩ false, 2⟩, ⟨.int .i64 6, shV ⟨0, 2, 20⟩ false, 3⟩,
  ⟨.int .i64 12, shV ⟨0, 1, 0⟩ false, 4⟩, ⟨.int .i64 15, shV ⟨2, 1, 0⟩ false, 5⟩, ⟨.int .i64 16, shV ⟨0, 0, 0⟩ true, 6⟩, ⟨.int .i64 28, shV ⟨16, 0, 0⟩ false, 7⟩, ⟨.int .i64 33, shV ⟨6, 1, 0⟩ false, 8⟩]

theorem heap_alloc_at (w : World) (o : Obj) : (w.alloc o).heap[w.heap.size]? = some o := heap_alloc_new w o
theorem set_alloc (w : World) (o o' : Obj) : ({ (w.alloc o) with heap := (w.alloc o).heap.setIfInBounds w.heap.size o' } : World) = w.alloc o' := by
  have e : (w.heap.push o).setIfInBounds w.heap.size o' = w.heap.push o' := by
    rw [← Array.toList_inj, Array.toList_setIfInBounds, Array.toList_push, Array.toList_push, show w.heap.size = w.heap.toList.length from by simp, List.set_append_right _ _ (Nat.le_refl _), Nat.sub_self]
    rfl
  show ({ w with heap := (w.heap.push o).setIfInBounds w.heap.size o' } : World) = { w with heap := w.heap.push o' }
  rw [e]
end Go.Proofs.Ytafkpdjcfokgbaa

namespace Go.Proofs.Ytafkpdjcfokgbaa
open Go.RowKit

/-- Data taken apart, as a value in the world w. -/
def PtAt (w : World) (v : Value) (x : Dt.Pt) : Prop := ∃ u, v = .agg #[.string ⟨x.a.toArray⟩, u, .string ⟨x.b.toArray⟩] ∧ ReadS w u x.ns
theorem PtAt.mk {w : World} {u : Value} {x : Dt.Pt} (A B : ByteArray) (hA : bl A = x.a) (hB : bl B = x.b) (h : ReadS w u x.ns) : PtAt w (.agg #[.string A, u, .string B]) x :=
  ⟨u, by rw [← hA, ← hB]; simp [bl], h⟩
theorem PtAt.keeps {w w' : World} {v : Value} {x : Dt.Pt} (h : PtAt w v x) (k : Keeps w w') : PtAt w' v x := by
  obtain ⟨u, rfl, h⟩ := h
  exact ⟨u, rfl, h.keeps k⟩

def joinP (x : Dt.Pt) : ByteArray := ⟨x.join.toArray⟩
theorem bl_joinP (x : Dt.Pt) : bl (joinP x) = x.join := bl_mk _

/-- The three cells of data that was boxed in block B, in a world behind W. -/
def Three (W : World) (B : Nat) (p q r u : Value) (ns : List (List UInt8)) (w : World) : Prop :=
  w.cell? ⟨B, 0, none⟩ = some p ∧ w.cell? ⟨B, 1, none⟩ = some q ∧ w.cell? ⟨B, 2, none⟩ = some r ∧ B < w.heap.size ∧ ReadS w u ns ∧ Keeps W w
theorem Three.keeps {W : World} {B : Nat} {p q r u : Value} {ns : List (List UInt8)} {w w' : World} (h : Three W B p q r u ns w) (hk : Keeps w w') : Three W B p q r u ns w' :=
  ⟨(hk.cell (p := ⟨B, 0, none⟩) h.2.2.2.1).trans h.1, (hk.cell (p := ⟨B, 1, none⟩) h.2.2.2.1).trans h.2.1, (hk.cell (p := ⟨B, 2, none⟩) h.2.2.2.1).trans h.2.2.1, Nat.lt_of_lt_of_le h.2.2.2.1 hk.size, h.2.2.2.2.1.keeps hk, h.2.2.2.2.2.trans hk⟩
theorem Three.made (w : World) (p q r u : Value) (ns : List (List UInt8)) (t : TypeId) (h : ReadS w u ns) : Three w w.heap.size p q r u ns (w.alloc (.cells #[p, q, r] t)) := by
  refine ⟨?_, ?_, ?_, by simp, h.keeps ((Keeps.refl _).alloc _), (Keeps.refl _).alloc _⟩
  · exact (World.cell?_alloc_mark w _ _ (0, 0) 0).trans rfl
  · exact (World.cell?_alloc_mark w _ _ (0, 0) 1).trans rfl
  · exact (World.cell?_alloc_mark w _ _ (0, 0) 2).trans rfl

end Go.Proofs.Ytafkpdjcfokgbaa

namespace Go.Proofs.Ytafkpdjcfokgbaa
open Go.RowKit

/-- Data taken apart, whose list of names the call itself made. -/
def PtOwn (w : World) (B : Nat) (v : Value) (x : Dt.Pt) : Prop := ∃ u, v = .agg #[.string ⟨x.a.toArray⟩, u, .string ⟨x.b.toArray⟩] ∧ OwnsS w B u x.ns
theorem PtOwn.mk {w : World} {B : Nat} {u : Value} {x : Dt.Pt} (A C : ByteArray) (hA : bl A = x.a) (hC : bl C = x.b) (h : OwnsS w B u x.ns) : PtOwn w B (.agg #[.string A, u, .string C]) x :=
  ⟨u, by rw [← hA, ← hC]; simp [bl], h⟩
theorem PtOwn.at_ {w : World} {B : Nat} {v : Value} {x : Dt.Pt} (h : PtOwn w B v x) : PtAt w v x := by
  obtain ⟨u, rfl, h⟩ := h
  exact ⟨u, rfl, h.read⟩
theorem PtOwn.below {w w' : World} {B : Nat} {v : Value} {x : Dt.Pt} (h : PtOwn w B v x) (k : Keeps w w') : PtOwn w' B v x := by
  obtain ⟨u, rfl, h⟩ := h
  exact ⟨u, rfl, h.below k⟩
theorem PtOwn.le {w : World} {B B' : Nat} {v : Value} {x : Dt.Pt} (h : PtOwn w B v x) (hb : B' ≤ B) : PtOwn w B' v x := by
  obtain ⟨u, rfl, h⟩ := h
  exact ⟨u, rfl, h.le hb⟩
def noPt : Value := .agg #[.string ⟨#[]⟩, .slice none 0 0, .string ⟨#[]⟩]
/-- What comes of a call that takes data apart. -/
def PtEnd (w : World) (r : Option Dt.Pt) (e : Ending) (w' : World) : Prop :=
  ∃ v, e = .returned (.tuple #[v, .bool r.isSome]) ∧ Keeps w w' ∧ (r = none → v = noPt) ∧ ∀ x, r = some x → PtOwn w' w.heap.size v x
theorem PtEnd.no {w w' : World} {r : Option Dt.Pt} (hr : r = none) (h : Keeps w w') : PtEnd w r (.returned (.tuple #[noPt, .bool false])) w' :=
  ⟨noPt, by rw [hr]; rfl, h, fun _ => rfl, fun x hx => by rw [hr] at hx; cases hx⟩
theorem PtEnd.yes {w w' : World} {r : Option Dt.Pt} {v : Value} {x : Dt.Pt} (hr : r = some x) (h : Keeps w w') (hx : PtOwn w' w.heap.size v x) : PtEnd w r (.returned (.tuple #[v, .bool true])) w' :=
  ⟨v, by rw [hr]; rfl, h, fun h => (by rw [hr] at h; cases h), fun y hy => by rw [hr] at hy; cases hy; exact hx⟩

theorem takeOk_nat (m : ByteArray) (p k : Nat) : Oct.takeOk m p k = decide (p + k ≤ m.size) := by
  rw [Bool.eq_iff_iff]
  simp only [Oct.takeOk, decide_eq_true_eq]
  omega
theorem takeS_nat (m : ByteArray) (p k : Nat) (h : p + k ≤ m.size) : bl (Oct.takeS m p k) = Dt.part (bl m) p k := by
  have : Oct.takeOk m p k = true := by rw [takeOk_nat]; simpa using h
  rw [Oct.takeS, if_pos this, bl_extract, Dt.part]
  congr 1
  omega

theorem OwnsS.other {w : World} {B : Nat} {v : Value} {l : List (List UInt8)} (h : OwnsS w B v l) {a : Addr} (ha : a.block < B) (u : Value) : OwnsS (w.setCell a u) B v l := by
  refine ⟨h.1, ?_⟩
  rcases h.2 with hn | ⟨g, cap, cur, rfl, hB, hg, rest⟩
  · exact .inl hn
  · exact .inr ⟨g, cap, cur, rfl, hB, by rw [heap_setCell_other w a g u (by omega)]; exact hg, rest⟩

theorem rds_step_yes {l : List UInt8} {n j q : Nat} {ds : List (List UInt8)} {z : Option (List (List UInt8) × Nat)} (h : z = (Dt.rds l (n - j) q).map (fun x => (ds ++ x.1, x.2))) (hj : j < n) (he : (Cm.readL l q).e = 0) :
    z = (Dt.rds l (n - (j + 1)) (Cm.readL l q).next).map (fun x => ((ds ++ [(Cm.readL l q).n]) ++ x.1, x.2)) := by
  rw [h, show n - j = (n - (j + 1)) + 1 by omega, Dt.rds, if_pos he, Option.map_map]
  congr 1
  funext x
  simp
theorem rds_step_no {l : List UInt8} {n j q : Nat} {ds : List (List UInt8)} {z : Option (List (List UInt8) × Nat)} (h : z = (Dt.rds l (n - j) q).map (fun x => (ds ++ x.1, x.2))) (hj : j < n) (he : (Cm.readL l q).e ≠ 0) : z = none := by
  rw [h, show n - j = (n - (j + 1)) + 1 by omega, Dt.rds, if_neg he]
  rfl

def TkRel (m : ByteArray) (n : Nat) (z : Option (List (List UInt8) × Nat)) (W : World) (a b i : Value) (wr : World) : Prop :=
  ∃ (j q : Nat) (ds : List (List UInt8)), j ≤ n ∧ ds.length = j ∧ i = .int .i64 j ∧ b = .int .i64 q ∧ q ≤ m.size ∧ OwnsS wr W.heap.size a ds ∧ z = (Dt.rds (bl m) (n - j) q).map (fun x => (ds ++ x.1, x.2)) ∧ Below W.heap.size W wr
theorem TkRel.mk {m : ByteArray} {n : Nat} {z : Option (List (List UInt8) × Nat)} {W wr : World} {a : Value} (j q : Nat) (ds : List (List UInt8)) (h1 : j ≤ n) (h2 : ds.length = j) (h3 : q ≤ m.size) (h4 : OwnsS wr W.heap.size a ds) (h5 : z = (Dt.rds (bl m) (n - j) q).map (fun x => (ds ++ x.1, x.2))) (h6 : Below W.heap.size W wr) :
    TkRel m n z W a (.int .i64 q) (.int .i64 j) wr := ⟨j, q, ds, h1, h2, rfl, rfl, h3, h4, h5, h6⟩

def tkOf (l : List UInt8) (p e : Nat) (s : Dt.Sh) (z : Option (List (List UInt8) × Nat)) : Option Dt.Pt :=
  match z with
  | none => none
  | some (ns, q) => if q + s.b = e then some ⟨Dt.part l p s.a, ns, Dt.part l q s.b⟩ else none
theorem tkOf_none (l : List UInt8) (p e : Nat) (s : Dt.Sh) : tkOf l p e s none = none := rfl
theorem tkOf_yes (l : List UInt8) (p e : Nat) (s : Dt.Sh) (ns : List (List UInt8)) (q : Nat) (h : q + s.b = e) : tkOf l p e s (some (ns, q)) = some ⟨Dt.part l p s.a, ns, Dt.part l q s.b⟩ := if_pos h
theorem tkOf_no (l : List UInt8) (p e : Nat) (s : Dt.Sh) (ns : List (List UInt8)) (q : Nat) (h : ¬ q + s.b = e) : tkOf l p e s (some (ns, q)) = none := if_neg h
theorem takeL_of {l : List UInt8} {p : Nat} (e : Nat) {s : Dt.Sh} (h : p + s.a ≤ l.length) : Dt.takeL l p e s = tkOf l p e s (Dt.rds l s.n (p + s.a)) := if_pos h

/-- The cells that take has laid. -/
def TkW (w : World) (s : Dt.Sh) (W : World) : Prop :=
  W.cell? ⟨w.heap.size, 2, none⟩ = some (.int .i64 s.b) ∧ W.cell? ⟨w.heap.size + 1, 0, none⟩ = some (.string ⟨#[]⟩) ∧ W.cell? ⟨w.heap.size + 1, 1, none⟩ = some (.slice none 0 0) ∧ W.cell? ⟨w.heap.size + 1, 2, none⟩ = some (.string ⟨#[]⟩) ∧
  (W.frozen? ⟨w.heap.size + 1, 0, none⟩ = false ∧ W.frozen? ⟨w.heap.size + 1, 1, none⟩ = false ∧ W.frozen? ⟨w.heap.size + 1, 2, none⟩ = false) ∧ w.heap.size + 1 < W.heap.size ∧ Keeps w W
theorem TkW.below {w W W' : World} {s : Dt.Sh} (h : TkW w s W) (hb : Below W.heap.size W W') : TkW w s W' := by
  obtain ⟨h1, h2, h3, h4, ⟨h5, h6, h7⟩, h8, h9⟩ := h
  obtain ⟨hc, hf⟩ := bcell hb
  exact ⟨(hc _ _ (by omega)).trans h1, (hc _ _ h8).trans h2, (hc _ _ h8).trans h3, (hc _ _ h8).trans h4, ⟨(hf _ _ h8).trans h5, (hf _ _ h8).trans h6, (hf _ _ h8).trans h7⟩, Nat.lt_of_lt_of_le h8 hb.size, h9.trans hb⟩
end Go.Proofs.Ytafkpdjcfokgbaa

namespace Go.Proofs.Ytafkpdjcfokgbaa
open Go.RowKit

/-- What the map of shapes tells of a type. -/
def lookV (k : Int) : Value := match Dt.shp k with | some s => shV s false | none => shV ⟨0, 0, 0⟩ (k == 16)
def lookOk (k : Int) : Bool := (Dt.shp k).isSome || k == 16
def shKinds : List Int := [1, 2, 5, 6, 12, 15, 16, 28, 33]
theorem find_hit (k : Int) (hk : k ∈ shKinds) : ∃ i, Instr.findNow (.int .i64) (.int .i64 k) shEs.toList 0 = some (some (i, lookV k)) ∧ lookOk k = true := by
  simp only [shKinds, List.mem_cons, List.not_mem_nil, or_false] at hk
  rcases hk with rfl | rfl | rfl | rfl | rfl | rfl | rfl | rfl | rfl <;> exact ⟨_, rfl, rfl⟩
theorem find_miss (k : Int) (hk : k ∉ shKinds) : Instr.findNow (.int .i64) (.int .i64 k) shEs.toList 0 = some none ∧ lookOk k = false ∧ lookV k = shV ⟨0, 0, 0⟩ false ∧ Dt.shp k = none := by
  simp only [shKinds, List.mem_cons, List.not_mem_nil, or_false, not_or] at hk
  obtain ⟨h1, h2, h3, h4, h5, h6, h7, h8, h9⟩ := hk
  have hs : Dt.shp k = none := by simp [Dt.shp, h1, h2, h3, h4, h5, h6, h8, h9]
  have f : ∀ a : Int, ¬ k = a → (k == a) = false := fun a h => beq_eq_false_iff_ne.2 h
  refine ⟨?_, by simp only [lookOk, hs, f _ h7]; rfl, by simp only [lookV, hs, f _ h7], hs⟩
  simp only [shEs, Instr.findNow, Instr.sameNow, f _ h1, f _ h2, f _ h3, f _ h4, f _ h5, f _ h6, f _ h7, f _ h8, f _ h9, if_true]
/-- Block B: the three cells of data taken apart, of zero values, that may be written. -/
def Zero3 (B : Nat) (W : World) : Prop :=
  W.cell? ⟨B, 0, none⟩ = some (.string ⟨#[]⟩) ∧ W.cell? ⟨B, 1, none⟩ = some (.slice none 0 0) ∧ W.cell? ⟨B, 2, none⟩ = some (.string ⟨#[]⟩) ∧
  (W.frozen? ⟨B, 0, none⟩ = false ∧ W.frozen? ⟨B, 1, none⟩ = false ∧ W.frozen? ⟨B, 2, none⟩ = false) ∧ B < W.heap.size
theorem Zero3.below {B : Nat} {W W' : World} (h : Zero3 B W) (hb : Keeps W W') : Zero3 B W' := by
  obtain ⟨h2, h3, h4, ⟨h5, h6, h7⟩, h8⟩ := h
  obtain ⟨hc, hf⟩ := bcell hb
  exact ⟨(hc _ _ h8).trans h2, (hc _ _ h8).trans h3, (hc _ _ h8).trans h4, ⟨(hf _ _ h8).trans h5, (hf _ _ h8).trans h6, (hf _ _ h8).trans h7⟩, Nat.lt_of_lt_of_le h8 (Below.size hb)⟩
theorem Zero3.made (w : World) (t : TypeId) : Zero3 w.heap.size (w.alloc (.cells #[.string ⟨#[]⟩, .slice none 0 0, .string ⟨#[]⟩] t)) := by
  refine ⟨?_, ?_, ?_, ⟨?_, ?_, ?_⟩, ?_⟩ <;> go_simp

end Go.Proofs.Ytafkpdjcfokgbaa

namespace Go.Proofs.Ytafkpdjcfokgbaa
open Go.RowKit

def erS (r : Dt.ER) : ByteArray := ⟨r.d.toArray⟩
theorem inside_take (m : ByteArray) (p n : Int) : Dt.inside (bl m) p n = Oct.takeOk m p n := by
  simp only [Dt.inside, Oct.takeOk, bl_length]
theorem exp_out {m : ByteArray} {p n k : Int} (h : Oct.takeOk m p n = false) : Dt.expL (bl m) p n k = ⟨[], 2⟩ := by
  rw [Dt.expL, if_neg (by rw [inside_take, h]; simp)]
theorem exp_no {m : ByteArray} {p n : Nat} {k : Int} (h : p + n ≤ m.size) (hs : Dt.splitL (bl m) p n k = none) : Dt.expL (bl m) p n k = ⟨[], 4⟩ := by
  rw [Dt.expL, if_pos (by rw [inside_take, takeOk_nat]; simpa using h), Int.toNat_natCast, Int.toNat_natCast, hs]
theorem exp_yes {m : ByteArray} {p n : Nat} {k : Int} {x : Dt.Pt} (h : p + n ≤ m.size) (hs : Dt.splitL (bl m) p n k = some x) : Dt.expL (bl m) p n k = ⟨x.join, 0⟩ := by
  rw [Dt.expL, if_pos (by rw [inside_take, takeOk_nat]; simpa using h), Int.toNat_natCast, Int.toNat_natCast, hs]
theorem ret_str_int {a b : ByteArray} {c d : Int} (h : a = b) (g : c = d) : Ending.returned (.tuple #[.string a, .int .i64 c]) = .returned (.tuple #[.string b, .int .i64 d]) := by rw [h, g]

theorem whole_split {k : Int} {d : ByteArray} (h : Dt.splitL (bl d) 0 d.size k = none) : Dt.wholeL k (bl d) = none := by
  rw [Dt.wholeL, bl_length, h]
theorem whole_same {k : Int} {d : ByteArray} {x : Dt.Pt} (h : Dt.splitL (bl d) 0 d.size k = some x) (hj : joinP x = d) : Dt.wholeL k (bl d) = some x := by
  rw [Dt.wholeL, bl_length, h]
  exact if_pos (by rw [← bl_joinP, hj])
theorem whole_other {k : Int} {d : ByteArray} {x : Dt.Pt} (h : Dt.splitL (bl d) 0 d.size k = some x) (hj : joinP x ≠ d) : Dt.wholeL k (bl d) = none := by
  rw [Dt.wholeL, bl_length, h]
  exact if_neg (fun e => hj (bl_inj (by rw [bl_joinP, e])))

end Go.Proofs.Ytafkpdjcfokgbaa

namespace Go.Proofs.Ytafkpdjcfokgbaa
open Go.RowKit

/-- What comes of Names. -/
def NamesEnd (w : World) (ns : List (List UInt8)) (e : Ending) (w' : World) : Prop := ∃ v, e = .returned v ∧ OwnsS w' w.heap.size v ns ∧ Keeps w w'
theorem NamesEnd.mk {w w' : World} {ns : List (List UInt8)} {v : Value} (h : OwnsS w' w.heap.size v ns) (k : Keeps w w') : NamesEnd w ns (.returned v) w' := ⟨v, rfl, h, k⟩
theorem namesL_none {k : Int} {d : List UInt8} (h : Dt.wholeL k d = none) : Dt.namesL k d = [] := by rw [Dt.namesL, h]
theorem namesL_some {k : Int} {d : List UInt8} {x : Dt.Pt} (h : Dt.wholeL k d = some x) : Dt.namesL k d = x.ns := by rw [Dt.namesL, h]

/-- The names, the first j of them in small letters. -/
def halfN (ls : List (List UInt8)) (j : Nat) : List (List UInt8) := (ls.take j).map Nm.lowL ++ ls.drop j
theorem halfN_len (ls : List (List UInt8)) (j : Nat) : (halfN ls j).length = ls.length := by
  unfold halfN; rw [List.length_append, List.length_map, List.length_take, List.length_drop]; omega
theorem halfN_zero (ls : List (List UInt8)) : halfN ls 0 = ls := rfl
theorem halfN_all (ls : List (List UInt8)) (j : Nat) (h : ls.length ≤ j) : halfN ls j = ls.map Nm.lowL := by
  unfold halfN; rw [List.take_of_length_le h, List.drop_of_length_le h, List.append_nil]
theorem halfN_get (ls : List (List UInt8)) (j : Nat) (h : j < ls.length) : (halfN ls j)[j]? = some ls[j] := by
  unfold halfN
  rw [List.getElem?_append_right (by rw [List.length_map, List.length_take]; omega), List.length_map, List.length_take, show j - min j ls.length = 0 by omega]
  rw [List.getElem?_drop]
  simp [h]
theorem halfN_set (ls : List (List UInt8)) (j : Nat) (h : j < ls.length) : (halfN ls j).set j (Nm.lowL ls[j]) = halfN ls (j + 1) := by
  unfold halfN
  have hl : ((ls.take j).map Nm.lowL).length = j := by rw [List.length_map, List.length_take]; omega
  rw [List.set_append_right _ _ (by omega), hl, Nat.sub_self, List.drop_eq_getElem_cons h, List.set_cons_zero]
  rw [List.take_succ_eq_append_getElem h, List.map_append]
  simp

theorem lowD_none {k : Int} {d : List UInt8} (h : Dt.wholeL k d = none) : Dt.lowD k d = [] := by rw [Dt.lowD, h]
theorem lowD_some {k : Int} {d : List UInt8} {x : Dt.Pt} (h : Dt.wholeL k d = some x) : Dt.lowD k d = x.low.join := by rw [Dt.lowD, h]; rfl
theorem low_of (k : Int) (d : List UInt8) {w w' : World} {v : Value} (hno : Dt.wholeL k d = none → v = noPt) (hyes : ∀ x, Dt.wholeL k d = some x → PtOwn w' w.heap.size v x) :
    ∃ x : Dt.Pt, PtOwn w' w.heap.size v x ∧ Dt.lowD k d = x.low.join ∧ x.ns.length ≤ 2 ∧ (∀ m ∈ x.ns, Nm.okL m = true) ∧ x.join.length ≤ 65535 := by
  rcases Option.eq_none_or_eq_some (Dt.wholeL k d) with hr | ⟨x, hr⟩
  · refine ⟨⟨[], [], []⟩, ?_, lowD_none hr, by simp, by simp, by simp [Dt.Pt.join]⟩
    rw [hno hr]
    exact PtOwn.mk ⟨#[]⟩ ⟨#[]⟩ rfl rfl (OwnsS.nil _ _)
  · have h := Dt.whole_names hr
    exact ⟨x, hyes x hr, lowD_some hr, h.1, h.2.1, by rw [(Dt.wholeL_join hr).1]; exact h.2.2⟩
/-- The cells of data that was boxed in block G. -/
def Box3 (G : Nat) (p q r : Value) (w : World) : Prop := w.cell? ⟨G, 0, none⟩ = some p ∧ w.cell? ⟨G, 1, none⟩ = some q ∧ w.cell? ⟨G, 2, none⟩ = some r ∧ G < w.heap.size
theorem Box3.keeps {G : Nat} {p q r : Value} {w w' : World} (h : Box3 G p q r w) (hk : Keeps w w') : Box3 G p q r w' :=
  ⟨(hk.cell (p := ⟨G, 0, none⟩) h.2.2.2).trans h.1, (hk.cell (p := ⟨G, 1, none⟩) h.2.2.2).trans h.2.1, (hk.cell (p := ⟨G, 2, none⟩) h.2.2.2).trans h.2.2.1, Nat.lt_of_lt_of_le h.2.2.2 hk.size⟩
theorem Box3.made (w : World) (p q r : Value) (t : TypeId) : Box3 w.heap.size p q r (w.alloc (.cells #[p, q, r] t)) := by
  refine ⟨?_, ?_, ?_, by simp⟩
  · exact (World.cell?_alloc_mark w _ _ (0, 0) 0).trans rfl
  · exact (World.cell?_alloc_mark w _ _ (0, 0) 1).trans rfl
  · exact (World.cell?_alloc_mark w _ _ (0, 0) 2).trans rfl
theorem Box3.other {G : Nat} {p q r : Value} {w : World} (h : Box3 G p q r w) (a : Addr) (ha : a.block ≠ G) (u : Value) : Box3 G p q r (w.setCell a u) := by
  have e : ∀ i, (w.setCell a u).cell? ⟨G, i, none⟩ = w.cell? ⟨G, i, none⟩ := fun i => World.cell?_setCell_other w a ⟨G, i, none⟩ u (fun h => ha (congrArg Addr.block h))
  exact ⟨(e 0).trans h.1, (e 1).trans h.2.1, (e 2).trans h.2.2.1, by simpa using h.2.2.2⟩
def LwRel (w : World) (G : Nat) (p q r : Value) (ns : List (List UInt8)) (i : Value) (wr : World) : Prop :=
  ∃ j : Nat, j ≤ ns.length ∧ i = .int .i64 j ∧ OwnsS wr w.heap.size q (halfN ns j) ∧ Box3 G p q r wr ∧ Below w.heap.size w wr
theorem LwRel.mk {w wr : World} {G : Nat} {p q r : Value} {ns : List (List UInt8)} (j : Nat) (h1 : j ≤ ns.length) (h2 : OwnsS wr w.heap.size q (halfN ns j)) (h3 : Box3 G p q r wr) (h4 : Below w.heap.size w wr) : LwRel w G p q r ns (.int .i64 j) wr := ⟨j, h1, rfl, h2, h3, h4⟩

end Go.Proofs.Ytafkpdjcfokgbaa

namespace Go.Proofs.Ytafkpdjcfokgbaa
open Go.RowKit

def shR (s : Dt.Sh) : Value := .agg #[.int .i64 s.a, .int .i64 s.n, .int .i64 s.b]
def shOf (k : Int) : Dt.Sh := (Dt.shp k).getD ⟨0, 0, 0⟩

end Go.Proofs.Ytafkpdjcfokgbaa

namespace Go.Proofs.Ytafkpdjcfokgbaa
open Go.RowKit

end Go.Proofs.Ytafkpdjcfokgbaa

namespace Go.Proofs.Ytafkpdjcfokgbaa
open Go.RowKit

def RxRel (m A : ByteArray) (n : Nat) (z : Option (List (List UInt8) × Nat)) (o i k : Value) : Prop :=
  ∃ (j q : Nat) (ds : List (List UInt8)) (O : ByteArray), j ≤ n ∧ k = .int .i64 j ∧ i = .int .i64 q ∧ q ≤ m.size ∧ o = .string O ∧ bl O = bl A ++ ds.flatten ∧ O.size ≤ A.size + 255 * j ∧ z = (Dt.rds (bl m) (n - j) q).map (fun x => (ds ++ x.1, x.2))
theorem RxRel.mk {m A : ByteArray} {n : Nat} {z : Option (List (List UInt8) × Nat)} (j q : Nat) (ds : List (List UInt8)) (O : ByteArray) (h1 : j ≤ n) (h2 : q ≤ m.size) (h3 : bl O = bl A ++ ds.flatten) (h4 : O.size ≤ A.size + 255 * j) (h5 : z = (Dt.rds (bl m) (n - j) q).map (fun x => (ds ++ x.1, x.2))) :
    RxRel m A n z (.string O) (.int .i64 q) (.int .i64 j) := ⟨j, q, ds, O, h1, rfl, rfl, h2, rfl, h3, h4, h5⟩
theorem split_of {l : List UInt8} {p n : Nat} {k : Int} {s : Dt.Sh} (hn : n ≤ 65535) (hs : Dt.shp k = some s) (hp : p + s.a ≤ l.length) : Dt.splitL l p n k = tkOf l p (p + n) s (Dt.rds l s.n (p + s.a)) := by
  rw [Dt.splitL, if_neg (by omega), hs]
  exact takeL_of _ hp
theorem rrS_size {l : List UInt8} {p : Int} {r : Cm.RR} (h : Cm.readL l p = r) : (rrS r).size ≤ 255 ∧ (r.next : Int) ≤ l.length := by
  have e : (rrS r).size = r.n.length := by rw [rrS, ← bl_length, bl_mk]
  rw [e]
  rcases Cm.read_names l p with h1 | h1 | ⟨n, k, h1, h2, h3, h4, h5⟩
  · rw [← h, h1]; simp [Cm.bad]
  · rw [← h, h1]; simp [Cm.bad]
  · rw [← h, h1]; exact ⟨(Dt.ok_len h2).2, by simp; omega⟩

end Go.Proofs.Ytafkpdjcfokgbaa

namespace Go.Proofs.Ytafkpdjcfokgbaa
open Go.RowKit

theorem take_few {l : List UInt8} {p n : Nat} {s : Dt.Sh} (h : n < s.a) : Dt.takeL l p (p + n) s = none := by
  unfold Dt.takeL
  split
  · rename_i hp
    split
    · rfl
    · rename_i ns q hr
      have := (Dt.rds_good l _ _ _ _ hp hr).2.2.1
      rw [if_neg (by omega)]
  · rfl
theorem split_few {l : List UInt8} {p n : Nat} {k : Int} {s : Dt.Sh} (hs : Dt.shp k = some s) (h : n < s.a) : Dt.splitL l p n k = none := by
  unfold Dt.splitL
  split
  · rfl
  · rw [hs]; exact take_few h

theorem check_long {k : Int} {d : List UInt8} (h : 65535 < d.length) : Dt.checkB k d = false := by
  have : Dt.splitL d 0 d.length k = none := by rw [Dt.splitL, if_pos h]
  rw [Dt.checkB, Dt.wholeL, this]; rfl
theorem check_exp {k : Int} (d : ByteArray) : Dt.checkB k (bl d) = (decide ((Dt.expL (bl d) 0 d.size k).e = 0) && decide (erS (Dt.expL (bl d) 0 d.size k) = d)) := by
  have e0 := @exp_no d 0 d.size k (by omega)
  have e1 := fun x => @exp_yes d 0 d.size k x (by omega)
  rw [Dt.checkB]
  rcases Option.eq_none_or_eq_some (Dt.splitL (bl d) 0 d.size k) with h | ⟨x, h⟩
  · have e := e0 h
    rw [Int.ofNat_zero] at e
    rw [e, whole_split h]; simp
  · have e := e1 x h
    rw [Int.ofNat_zero] at e
    rw [e]
    by_cases hj : joinP x = d
    · rw [whole_same h hj]
      have : erS ⟨x.join, 0⟩ = d := hj
      simp [this]
    · rw [whole_other h hj]
      have : ¬ erS ⟨x.join, 0⟩ = d := hj
      simp [this]

end Go.Proofs.Ytafkpdjcfokgbaa

namespace Go.Proofs.Ytafkpdjcfokgbaa
open Go.RowKit

/-- The names of data that is whole are read from where its names begin. -/
theorem whole_rds {k : Int} {d : List UInt8} {x : Dt.Pt} (h : Dt.wholeL k d = some x) : ∃ q, Dt.rds d (shOf k).n (shOf k).a = some (x.ns, q) ∧ (shOf k).a ≤ d.length ∧ d = x.join ∧ x.a.length = (if (Dt.shp k).isSome then (shOf k).a else d.length) ∧ x.a.take (shOf k).a = d.take (shOf k).a := by
  obtain ⟨h1, ⟨s, hs, hf⟩ | ⟨hs, hn, rfl, ht⟩⟩ := Dt.wholeL_parts h
  · have e : shOf k = s := by simp [shOf, hs]
    rw [e]
    obtain ⟨g1, g2, g3, g4⟩ := hf
    have hd : d.drop s.a = x.ns.flatten ++ x.b := by rw [← h1, Dt.Pt.join, List.append_assoc, ← g1, List.drop_left]
    have := Dt.rds_whole d x.ns s.a x.b g3 hd
    rw [g2] at this
    refine ⟨_, this, ?_, h1.symm, by simp [hs, g1], ?_⟩
    · rw [← h1]; simp only [Dt.Pt.join, List.length_append]; omega
    · rw [← h1, Dt.Pt.join, List.append_assoc, ← g1, List.take_left, List.take_length]
  · have e : shOf k = ⟨0, 0, 0⟩ := by simp [shOf, hs]
    rw [e]
    exact ⟨0, rfl, by simp, h1.symm, by simp [hs], by simp⟩

theorem shOf_small (k : Int) : (shOf k).a ≤ 16 ∧ (shOf k).n ≤ 2 := by
  unfold shOf
  cases h : Dt.shp k with
  | none => simp
  | some s => have := Dt.shp_small h; exact ⟨this.1, this.2.1⟩

end Go.Proofs.Ytafkpdjcfokgbaa

namespace Go.Proofs.Ytafkpdjcfokgbaa
open Go.RowKit

theorem low_split {k : Int} {d : List UInt8} {x : Dt.Pt} (h : Dt.wholeL k d = some x) : x.low.join = d.take (shOf k).a ++ (x.ns.map Nm.lowL).flatten ++ d.drop ((shOf k).a + x.ns.flatten.length) ∧ (shOf k).a + x.ns.flatten.length ≤ d.length := by
  obtain ⟨h1, ⟨s, hs, hf⟩ | ⟨hs, hn, rfl, ht⟩⟩ := Dt.wholeL_parts h
  · have e : shOf k = s := by simp [shOf, hs]
    rw [e]
    obtain ⟨g1, g2, g3, g4⟩ := hf
    have hd : d.drop s.a = x.ns.flatten ++ x.b := by rw [← h1, Dt.Pt.join, List.append_assoc, ← g1, List.drop_left]
    have ht : d.take s.a = x.a := by rw [← h1, Dt.Pt.join, List.append_assoc, ← g1, List.take_left]
    have hb : d.drop (s.a + x.ns.flatten.length) = x.b := by rw [← List.drop_drop, hd, List.drop_left]
    rw [ht, hb]
    refine ⟨rfl, ?_⟩
    rw [← h1]; simp only [Dt.Pt.join, List.length_append]; omega
  · have e : shOf k = ⟨0, 0, 0⟩ := by simp [shOf, hs]
    rw [e]
    simp [Dt.Pt.join, Dt.Pt.low]

def LlRel (b : List UInt8) (p : Nat) (ns : List (List UInt8)) (W : World) (o i k : Value) (wr : World) : Prop :=
  ∃ (j : Nat) (O : ByteArray), j ≤ ns.length ∧ k = .int .i64 j ∧ o = .string O ∧ bl O = b ++ ((ns.take j).map Nm.lowL).flatten ∧ i = .int .i64 (p + (ns.take j).flatten.length : Nat) ∧ Keeps W wr
theorem LlRel.mk {b : List UInt8} {p : Nat} {ns : List (List UInt8)} {W wr : World} (j q : Nat) (O : ByteArray) (h1 : j ≤ ns.length) (h2 : bl O = b ++ ((ns.take j).map Nm.lowL).flatten) (h3 : q = p + (ns.take j).flatten.length) (h4 : Keeps W wr) : LlRel b p ns W (.string O) (.int .i64 q) (.int .i64 j) wr := ⟨j, O, h1, rfl, rfl, h2, by rw [h3], h4⟩
theorem take_nextD {ns : List (List UInt8)} {j : Nat} (h : j < ns.length) : (ns.take (j + 1)).flatten = (ns.take j).flatten ++ ns[j] ∧ ((ns.take (j + 1)).map Nm.lowL).flatten = ((ns.take j).map Nm.lowL).flatten ++ Nm.lowL ns[j] := by
  rw [List.take_succ_eq_append_getElem h]
  refine ⟨by rw [List.flatten_append]; simp, by rw [List.map_append, List.flatten_append]; simp⟩
theorem flat_takeD {ns : List (List UInt8)} (h : ∀ n ∈ ns, Nm.okL n = true) (j : Nat) : (ns.take j).flatten.length ≤ 255 * j := by
  have := Dt.flatten_bound (ns.take j) (fun n hn => h n (List.mem_of_mem_take hn))
  rw [List.length_take] at this
  omega
theorem low_sizeD {O d : ByteArray} {a j : Nat} {ns : List (List UInt8)} (h : ∀ n ∈ ns, Nm.okL n = true) (hO : bl O = (bl d).take a ++ ((ns.take j).map Nm.lowL).flatten) : O.size ≤ a + 255 * j := by
  rw [← bl_length, hO, List.length_append, List.length_take, Dt.flatten_low]
  have := flat_takeD h j
  omega

end Go.Proofs.Ytafkpdjcfokgbaa
