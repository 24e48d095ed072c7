/- What strings.Join of Go's library answers where nothing is laid between the texts: the library's own contract, at this program. No condition. Plain functions on bytes: what layer 5 tells. No condition. What areTexts and shapes of layer 5 answer, for every input. What join of layer 5 answers, for every data taken apart. What take of layer 5 answers, for every input. What split of layer 5 answers, for every input. What Expand, splitWhole, Check, Names of layer 5 answer, for every input. What Check, Names, Low of layer 5 answer, for every input. What the document's shape, texts, Expand, Check of layer 5 answer. What the document's Expand and Check of layer 5 answer. What the document's Expand of layer 5 answers for a type that has a shape. What the document's Expand and Check of layer 5 answer. What the document's Names of layer 5 answers. What the document's Low of layer 5 answers. -/
import Derived.Shelf.Strings.OnBuilder
import Derived.Test.YtdlaepfnogmebaaRows
import Derived.Test.YtdlaepfnogmebaaBase
import Derived.Test.YtdlaepfnogmebaaNames
import Derived.Test.YtdlaepfnogmebaaComp
import Derived.Deep.RegionHeld3
namespace Go.Proofs.Ytdlaepfnogmebaa
open Go.Shelf Go.RowKit

def Try.lays156_ren : Go.Shelf.Ren := ⟨fun | 156 => 138 | 165 => 142 | 166 => 143 | 169 => 144 | 240 => 146 | 241 => 147 | 276 => 149 | 277 => 150 | n => n, fun | 31 => 33 | 9 => 9 | 3 => 3 | 4 => 4 | 0 => 0 | 20 => 20 | 72 => 194 | 76 => 198 | 70 => 192 | 37 => 180 | 75 => 197 | 127 => 200 | 164 => 203 | 5 => 5 | 80 => 181 | n => n, fun | n => n⟩
theorem Try.lays156 : Go.Proofs.Lays.n156 Try.prog Try.lays156_ren := {
  mixed := by kernel_rfl
  f156 := Try.func138.trans (congrArg some (by kernel_rfl))
  f165 := Try.func142.trans (congrArg some (by kernel_rfl))
  f166 := Try.func143.trans (congrArg some (by kernel_rfl))
  f169 := Try.func144.trans (congrArg some (by kernel_rfl))
  f240 := Try.func146.trans (congrArg some (by kernel_rfl))
  f241 := Try.func147.trans (congrArg some (by kernel_rfl))
  f276 := Try.func149.trans (congrArg some (by kernel_rfl))
  f277 := Try.func150.trans (congrArg some (by kernel_rfl))
  t0 := Try.underlying0
  a0 := Try.isAgg0
  z0 := Try.sizeOf0
  v0 := Try.zeroValue0
  t3 := Try.underlying3
  a3 := Try.isAgg3
  z3 := Try.sizeOf3
  v3 := Try.zeroValue3
  t4 := Try.underlying4
  a4 := Try.isAgg4
  z4 := Try.sizeOf4
  v4 := Try.zeroValue4
  t9 := Try.underlying9
  a9 := Try.isAgg9
  z9 := Try.sizeOf9
  v9 := Try.zeroValue9
  t20 := Try.underlying20
  a20 := Try.isAgg20
  z20 := Try.sizeOf20
  v20 := Try.zeroValue20
  t31 := Try.underlying33
  a31 := Try.isAgg33
  z31 := Try.sizeOf33
  v31 := Try.zeroValue33
  t37 := Try.underlying180
  a37 := Try.isAgg180
  z37 := Try.sizeOf180
  v37 := Try.zeroValue180
  t70 := Try.underlying192
  a70 := Try.isAgg192
  z70 := Try.sizeOf192
  v70 := Try.zeroValue192
  t72 := Try.underlying194
  a72 := Try.isAgg194
  z72 := Try.sizeOf194
  v72 := Try.zeroValue194
  t75 := Try.underlying197
  a75 := Try.isAgg197
  z75 := Try.sizeOf197
  v75 := Try.zeroValue197
  t76 := Try.underlying198
  a76 := Try.isAgg198
  z76 := Try.sizeOf198
  v76 := Try.zeroValue198
  t127 := Try.underlying200
  a127 := Try.isAgg200
  z127 := Try.sizeOf200
  v127 := Try.zeroValue200
  t164 := Try.underlying203
  a164 := Try.isAgg203
  z164 := Try.sizeOf203
  v164 := Try.zeroValue203 }
theorem Try.Builder_Extra_156 : Builder.Extra Try.prog Try.lays156_ren := {
  sizeBuilder := by kernel_rfl
  liesBuilder := by kernel_rfl
  t5 := Try.underlying5
  a5 := Try.isAgg5
  z5 := Try.sizeOf5
  v5 := Try.zeroValue5
  infoByte := by kernel_rfl
  cellsByte := by kernel_rfl
  sizeByte := by kernel_rfl
  neB5 := by decide }

theorem join_flat (xs : List (List UInt8)) : Lib.join xs [] = xs.flatten := by
  cases xs with
  | nil => rfl
  | cons x r =>
    rw [Lib.join_cons, Lib.joinTail]
    simp
theorem strings_join (v : Value) (ns : List (List UInt8)) (w : World) (h : ReadS w v ns) (hn : ns.length ≤ 1000000) (hl : ns.flatten.length ≤ 140737488355328) :
    Calls Try.prog 138 #[v, .string ⟨#[]⟩] w fun e w' => e = .returned (.string ⟨ns.flatten.toArray⟩) ∧ Keeps w w' := by
  rcases Nat.eq_zero_or_pos ns.length with h0 | h0
  · have : ns = [] := List.length_eq_zero_iff.1 h0
    subst this
    obtain ⟨a, cap, rfl, _, _⟩ := h
    exact (Any.strings_Join_none Try.lays156 Try.Builder_Extra_156 a cap ⟨#[]⟩ w).mono fun e w' ⟨he, hw⟩ => ⟨he, hw ▸ Keeps.refl _⟩
  · obtain ⟨b, off, cap, rfl, hb, hc, hle⟩ := ReadS.parts h h0
    have e1 : (ns.map fun x => (⟨x.toArray⟩ : ByteArray)).map (·.data.toList) = ns := by
      rw [List.map_map]
      conv => rhs; rw [← List.map_id ns]
      refine List.map_congr_left fun x _ => ?_
      simp
    have e2 : Lib.join ((ns.map fun x => (⟨x.toArray⟩ : ByteArray)).map (·.data.toList)) (⟨#[]⟩ : ByteArray).data.toList = ns.flatten := by rw [e1]; exact join_flat ns
    have := Any.strings_Join Try.lays156 Try.Builder_Extra_156 b off cap (ns.map fun x => (⟨x.toArray⟩ : ByteArray)) ⟨#[]⟩ w
      (fun j x hx => by
        rw [List.getElem?_map, Option.map_eq_some_iff] at hx
        obtain ⟨y, hy, rfl⟩ := hx
        obtain ⟨hj, rfl⟩ := List.getElem?_eq_some_iff.1 hy
        exact hc j hj)
      hb (by rw [List.length_map]; omega) (by rw [List.length_map]; exact hle) (by rw [e2]; exact hl)
    rw [e2, List.length_map] at this
    exact this
end Go.Proofs.Ytdlaepfnogmebaa

namespace Go.Proofs.Ytdlaepfnogmebaa.Dt
open Go.Proofs.Ytdlaepfnogmebaa.Nm (lowL okL)

/-- How many bytes ahead of names, how many names, how many bytes behind. -/
structure Sh where
  a : Nat
  n : Nat
  b : Nat
  deriving DecidableEq
/-- The shape of a type that has names, or a size. -/
def shp (k : Int) : Option Sh :=
  if k = 1 then some ⟨4, 0, 0⟩ else if k = 2 then some ⟨0, 1, 0⟩ else if k = 5 then some ⟨0, 1, 0⟩ else if k = 6 then some ⟨0, 2, 20⟩
  else if k = 12 then some ⟨0, 1, 0⟩ else if k = 15 then some ⟨2, 1, 0⟩ else if k = 28 then some ⟨16, 0, 0⟩ else if k = 33 then some ⟨6, 1, 0⟩ else none

/-- Where texts end that stand one behind the other from p on. By fuel. -/
def tx (l : List UInt8) : Nat → Nat → Nat
  | 0, p => p
  | f + 1, p => match l[p]? with
    | none => p
    | some c => tx l f (p + (1 + c.toNat))
def txm (l : List UInt8) (p : Nat) : Nat := tx l (l.length - p + 1) p
def textsB (l : List UInt8) : Bool := decide (0 < txm l 0) && decide (txm l 0 = l.length)
theorem tx_fuel (l : List UInt8) (f : Nat) : ∀ (g p : Nat), l.length - p < f → l.length - p < g → tx l f p = tx l g p := by
  induction f with
  | zero => intro g p h; omega
  | succ f ih =>
    intro g p h1 h2
    obtain ⟨g, rfl⟩ : ∃ g', g = g' + 1 := ⟨g - 1, by omega⟩
    simp only [tx]
    split
    · rfl
    · rename_i c hc
      have := (List.getElem?_eq_some_iff.1 hc).1
      exact ih g _ (by omega) (by omega)
theorem txm_end {l : List UInt8} {p : Nat} (h : l.length ≤ p) : txm l p = p := by
  simp only [txm, tx, List.getElem?_eq_none h]
theorem txm_step {l : List UInt8} {p : Nat} {c : UInt8} (h : l[p]? = some c) : txm l p = txm l (p + (1 + c.toNat)) := by
  have := (List.getElem?_eq_some_iff.1 h).1
  conv => lhs; simp only [txm, tx, h]
  exact tx_fuel l _ _ _ (by omega) (by omega)

/-- Names that stand one behind the other from p on, and the place behind them. -/
def rds (l : List UInt8) : Nat → Nat → Option (List (List UInt8) × Nat)
  | 0, p => some ([], p)
  | k + 1, p => if (Cm.readL l p).e = 0 then (rds l k (Cm.readL l p).next).map (fun x => ((Cm.readL l p).n :: x.1, x.2)) else none
def part (l : List UInt8) (p n : Nat) : List UInt8 := (l.drop p).take n
/-- Data taken apart. -/
structure Pt where
  a : List UInt8
  ns : List (List UInt8)
  b : List UInt8
  deriving DecidableEq
def Pt.join (p : Pt) : List UInt8 := p.a ++ p.ns.flatten ++ p.b
def takeL (l : List UInt8) (p e : Nat) (s : Sh) : Option Pt :=
  if p + s.a ≤ l.length then
    match rds l s.n (p + s.a) with
    | none => none
    | some (ns, q) => if q + s.b = e then some ⟨part l p s.a, ns, part l q s.b⟩ else none
  else none
def splitL (l : List UInt8) (p n : Nat) (k : Int) : Option Pt :=
  if 65535 < n then none
  else match shp k with
    | some s => takeL l p (p + n) s
    | none => if k = 16 ∧ textsB (part l p n) = false then none else some ⟨part l p n, [], []⟩
def wholeL (k : Int) (d : List UInt8) : Option Pt :=
  match splitL d 0 d.length k with
  | none => none
  | some p => if p.join = d then some p else none
def checkB (k : Int) (d : List UInt8) : Bool := (wholeL k d).isSome
def namesL (k : Int) (d : List UInt8) : List (List UInt8) := match wholeL k d with | none => [] | some p => p.ns
def lowD (k : Int) (d : List UInt8) : List UInt8 := match wholeL k d with | none => [] | some p => p.a ++ (p.ns.map lowL).flatten ++ p.b
/-- What Expand answers. -/
structure ER where
  d : List UInt8
  e : Nat
  deriving DecidableEq
def inside (l : List UInt8) (p n : Int) : Bool := decide (0 ≤ p ∧ 0 ≤ n ∧ n ≤ (l.length : Int) - p)
def expL (l : List UInt8) (p n k : Int) : ER :=
  if inside l p n = true then
    match splitL l p.toNat n.toNat k with
    | none => ⟨[], 4⟩
    | some x => ⟨x.join, 0⟩
  else ⟨[], 2⟩

theorem part_length {l : List UInt8} {p n : Nat} (h : p + n ≤ l.length) : (part l p n).length = n := by
  rw [part, List.length_take, List.length_drop]; omega
theorem shp_small {k : Int} {s : Sh} (h : shp k = some s) : s.a ≤ 16 ∧ s.n ≤ 2 ∧ s.b ≤ 20 := by
  unfold shp at h
  repeat' split at h
  all_goals first | (cases h; simp) | cases h
theorem ok_len {n : List UInt8} (h : okL n = true) : 1 ≤ n.length ∧ n.length ≤ 255 := ⟨Nm.ok_pos h, ((Nm.okL_spec n).1 h).1⟩

/-- What names are read. -/
theorem rds_good (l : List UInt8) : ∀ (k p : Nat) (ns : List (List UInt8)) (q : Nat), p ≤ l.length → rds l k p = some (ns, q) → ns.length = k ∧ (∀ n ∈ ns, okL n = true) ∧ p ≤ q ∧ q ≤ l.length
  | 0, p, ns, q, hp, h => by
    simp only [rds, Option.some.injEq, Prod.mk.injEq] at h
    obtain ⟨rfl, rfl⟩ := h
    simp [hp]
  | k + 1, p, ns, q, hp, h => by
    simp only [rds] at h
    split at h
    · rename_i he
      rcases Cm.read_names l p with h1 | h1 | ⟨n, m, h1, h2, h3, h4, h5⟩
      · rw [h1] at he; simp [Cm.bad] at he
      · rw [h1] at he; simp [Cm.bad] at he
      · rw [h1] at h
        simp only [Option.map_eq_some_iff, Prod.mk.injEq] at h
        obtain ⟨⟨ns', q'⟩, h6, h7, h8⟩ := h
        simp only at h6 h7 h8
        have ih := rds_good l k m ns' q' h5 h6
        subst h7 h8
        refine ⟨by simp [ih.1], ?_, by omega, ih.2.2.2⟩
        intro x hx
        rcases List.mem_cons.1 hx with rfl | hx
        · exact h2
        · exact ih.2.1 x hx
    · cases h
/-- Names that stand whole are read as they stand. -/
theorem rds_whole (l : List UInt8) : ∀ (ns : List (List UInt8)) (p : Nat) (r : List UInt8), (∀ n ∈ ns, okL n = true) → l.drop p = ns.flatten ++ r → rds l ns.length p = some (ns, p + ns.flatten.length)
  | [], p, r, _, _ => by simp [rds]
  | n :: ns, p, r, h, hd => by
    simp only [List.flatten_cons, List.append_assoc] at hd
    have h1 := Cm.read_whole l n (ns.flatten ++ r) p (h n (by simp)) hd
    have h2 : l.drop (p + n.length) = ns.flatten ++ r := by
      rw [← List.drop_drop, hd, List.drop_left]
    have h3 := rds_whole l ns (p + n.length) r (fun x hx => h x (by simp [hx])) h2
    simp only [List.length_cons, rds, h1, if_true, h3, Option.map_some, List.flatten_cons, List.length_append, Nat.add_assoc]

theorem flatten_bound : ∀ (ns : List (List UInt8)), (∀ n ∈ ns, okL n = true) → ns.flatten.length ≤ 255 * ns.length
  | [], _ => by simp
  | n :: ns, h => by
    have := (ok_len (h n (by simp))).2
    have := flatten_bound ns (fun x hx => h x (by simp [hx]))
    simp only [List.flatten_cons, List.length_append, List.length_cons]
    omega
/-- What has a type's shape. -/
def Fits (s : Sh) (x : Pt) : Prop := x.a.length = s.a ∧ x.ns.length = s.n ∧ (∀ n ∈ x.ns, okL n = true) ∧ x.b.length = s.b
theorem takeL_fits {l : List UInt8} {p e : Nat} {s : Sh} {x : Pt} (he : e ≤ l.length) (h : takeL l p e s = some x) : Fits s x := by
  unfold takeL at h
  split at h
  · rename_i hp
    split at h
    · cases h
    · rename_i ns q hr
      split at h
      · rename_i hq
        cases h
        have g := rds_good l _ _ _ _ hp hr
        exact ⟨part_length hp, g.1, g.2.1, part_length (by omega)⟩
      · cases h
  · cases h
theorem fits_small {k : Int} {s : Sh} {x : Pt} (hs : shp k = some s) (h : Fits s x) : x.join.length ≤ 600 ∧ x.ns.length ≤ 2 := by
  have h1 := shp_small hs
  have h2 := flatten_bound x.ns h.2.2.1
  simp only [Pt.join, List.length_append]
  have := h.1
  have := h.2.1
  have := h.2.2.2
  omega
/-- What stands whole is taken apart as it stands. -/
theorem takeL_whole {s : Sh} {x : Pt} (h : Fits s x) : takeL x.join 0 x.join.length s = some x := by
  obtain ⟨h1, h2, h3, h4⟩ := h
  have hl : x.join.length = s.a + x.ns.flatten.length + s.b := by simp only [Pt.join, List.length_append]; omega
  have hd : x.join.drop s.a = x.ns.flatten ++ x.b := by rw [Pt.join, List.append_assoc, ← h1, List.drop_left]
  have hr := rds_whole x.join x.ns s.a x.b h3 hd
  rw [h2] at hr
  have ha : part x.join 0 s.a = x.a := by rw [part, List.drop_zero, Pt.join, List.append_assoc, ← h1, List.take_left]
  have hb : part x.join (s.a + x.ns.flatten.length) s.b = x.b := by
    rw [part, ← List.drop_drop, hd, List.drop_left, ← h4, List.take_length]
  simp only [takeL, Nat.zero_add]
  rw [if_pos (by omega), hr]
  simp only [hl, if_true, ha, hb]
theorem wholeL_shape {k : Int} {s : Sh} {x : Pt} (hs : shp k = some s) (h : Fits s x) : wholeL k x.join = some x := by
  have hb := (fits_small hs h).1
  have h1 : splitL x.join 0 x.join.length k = some x := by
    rw [splitL, if_neg (by omega), hs]
    simp only [Nat.zero_add]
    exact takeL_whole h
  rw [wholeL, h1]
  simp
theorem splitL_parts {l : List UInt8} {p n : Nat} {k : Int} {x : Pt} (hp : p + n ≤ l.length) (h : splitL l p n k = some x) :
    (∃ s, shp k = some s ∧ Fits s x) ∨ (shp k = none ∧ n ≤ 65535 ∧ x = ⟨part l p n, [], []⟩ ∧ (k = 16 → textsB (part l p n) = true)) := by
  unfold splitL at h
  split at h
  · cases h
  · rename_i hn
    split at h
    · rename_i s hs
      exact .inl ⟨s, hs, takeL_fits hp h⟩
    · rename_i hs
      split at h
      · cases h
      · rename_i ht
        cases h
        refine .inr ⟨hs, by omega, rfl, fun hk => ?_⟩
        cases hb : textsB (part l p n)
        · exact absurd ⟨hk, hb⟩ ht
        · rfl
theorem wholeL_plain {k : Int} {d : List UInt8} (hs : shp k = none) (hn : d.length ≤ 65535) (ht : k = 16 → textsB d = true) : wholeL k d = some ⟨d, [], []⟩ := by
  have hp : part d 0 d.length = d := by rw [part, List.drop_zero, List.take_length]
  have h1 : splitL d 0 d.length k = some ⟨d, [], []⟩ := by
    rw [splitL, if_neg (by omega), hs]
    simp only [hp]
    rw [if_neg]
    intro h
    rw [ht h.1] at h
    exact absurd h.2 (by simp)
  rw [wholeL, h1]
  simp [Pt.join]
theorem wholeL_join {k : Int} {d : List UInt8} {x : Pt} (h : wholeL k d = some x) : x.join = d ∧ splitL d 0 d.length k = some x := by
  unfold wholeL at h
  split at h
  · cases h
  · rename_i p hp
    split at h
    · rename_i he
      cases h
      exact ⟨he, hp⟩
    · cases h
theorem wholeL_parts {k : Int} {d : List UInt8} {x : Pt} (h : wholeL k d = some x) :
    x.join = d ∧ ((∃ s, shp k = some s ∧ Fits s x) ∨ (shp k = none ∧ d.length ≤ 65535 ∧ x = ⟨d, [], []⟩ ∧ (k = 16 → textsB d = true))) := by
  obtain ⟨h1, h2⟩ := wholeL_join h
  refine ⟨h1, ?_⟩
  have hp : part d 0 d.length = d := by rw [part, List.drop_zero, List.take_length]
  have := splitL_parts (by omega) h2
  rw [hp] at this
  exact this
/-- What is taken apart has its type's shape. -/
theorem split_whole {l : List UInt8} {p n : Nat} {k : Int} {x : Pt} (hp : p + n ≤ l.length) (h : splitL l p n k = some x) : wholeL k x.join = some x := by
  rcases splitL_parts hp h with ⟨s, hs, hf⟩ | ⟨hs, hn, rfl, ht⟩
  · exact wholeL_shape hs hf
  · have hj : (Pt.mk (part l p n) [] []).join = part l p n := by simp [Pt.join]
    rw [hj]
    exact wholeL_plain hs (by rw [part_length hp]; exact hn) ht
theorem split_len {l : List UInt8} {p n : Nat} {k : Int} {x : Pt} (hp : p + n ≤ l.length) (h : splitL l p n k = some x) : x.join.length ≤ 65535 ∧ x.ns.length ≤ 2 ∧ (∀ m ∈ x.ns, okL m = true) := by
  rcases splitL_parts hp h with ⟨s, hs, hf⟩ | ⟨hs, hn, rfl, ht⟩
  · have := fits_small hs hf
    exact ⟨by omega, this.2, hf.2.2.1⟩
  · refine ⟨?_, by simp, by simp⟩
    simp only [Pt.join, List.flatten_nil, List.append_nil, part_length hp]
    exact hn
/-- In small letters it has its shape, too. -/
def Pt.low (x : Pt) : Pt := ⟨x.a, x.ns.map lowL, x.b⟩
theorem map_low_ok {ns : List (List UInt8)} (h : ∀ n ∈ ns, okL n = true) : ∀ n ∈ ns.map lowL, okL n = true := by
  intro n hn
  obtain ⟨m, hm, rfl⟩ := List.mem_map.1 hn
  rw [Nm.ok_low]
  exact h m hm
theorem low_whole {k : Int} {d : List UInt8} {x : Pt} (h : wholeL k d = some x) : wholeL k x.low.join = some x.low := by
  obtain ⟨h1, ⟨s, hs, hf⟩ | ⟨hs, hn, rfl, ht⟩⟩ := wholeL_parts h
  · exact wholeL_shape hs ⟨hf.1, by simp [Pt.low, hf.2.1], map_low_ok hf.2.2.1, hf.2.2.2⟩
  · have e : (Pt.mk d [] []).low = ⟨d, [], []⟩ := rfl
    rw [e, h1]
    exact h
theorem flatten_low : ∀ (ns : List (List UInt8)), (ns.map lowL).flatten.length = ns.flatten.length
  | [] => rfl
  | n :: ns => by
    have := flatten_low ns
    simp only [List.map_cons, List.flatten_cons, List.length_append, Nm.lowL_length, this]
theorem low_length (x : Pt) : x.low.join.length = x.join.length := by
  simp only [Pt.join, Pt.low, List.length_append, flatten_low]
theorem low_twice (x : Pt) : x.low.low = x.low := by
  simp only [Pt.low, List.map_map]
  congr 1
  refine List.map_congr_left fun n _ => ?_
  exact Nm.lowL_twice n
theorem whole_names {k : Int} {d : List UInt8} {x : Pt} (h : wholeL k d = some x) : x.ns.length ≤ 2 ∧ (∀ m ∈ x.ns, okL m = true) ∧ d.length ≤ 65535 := by
  obtain ⟨h1, h2⟩ := wholeL_join h
  have := split_len (by omega) h2
  rw [h1] at this
  exact ⟨this.2.1, this.2.2, this.1⟩
end Go.Proofs.Ytdlaepfnogmebaa.Dt

namespace Go.Proofs.Ytdlaepfnogmebaa
open Go.RowKit

theorem bl_at? (s : ByteArray) (p : Nat) (h : p < s.size) : (bl s)[p]? = some s[p] := by
  rw [List.getElem?_eq_getElem (by rw [bl_length]; exact h)]; rfl

theorem textsB_end (n : ByteArray) (p : Nat) (h : Dt.txm (bl n) 0 = p) : Dt.textsB (bl n) = (decide (0 < (p : Int)) && ((p : Int) == (n.size : Int))) := by
  rw [Bool.eq_iff_iff]
  simp only [Dt.textsB, h, bl_length, Bool.and_eq_true, decide_eq_true_eq, beq_iff_eq]
  omega

set_option maxHeartbeats 800000 in
theorem areTexts_any (n : ByteArray) (w : World) (hn : n.size ≤ 1000000) :
    Calls Try.prog 141 #[.string n] w fun e w' => e = .returned (.bool (Dt.textsB (bl n))) ∧ w' = w := by
  go_enter Try.func141, Try.ntmps141
  go_wp2
  go_loop [3] (fun i => ∃ p : Nat, p ≤ n.size + 256 ∧ i = .int .i64 p ∧ Dt.txm (bl n) 0 = Dt.txm (bl n) p) (fun i => n.size + 256 - (intOf i).toNat)
  case atStart => exact ⟨0, by omega, rfl, rfl⟩
  case round =>
    obtain ⟨p, hp, rfl, htx⟩ := hrel
    have HT := hide htx
    clear htx
    by_cases hlt : p < n.size
    · have hc := UInt8.toNat_lt n[p]
      have HS := hide (Dt.txm_step (bl_at? n p hlt))
      go_wp2
      go_round
      case rel => exact ⟨p + (1 + n[p].toNat), by omega, by go_num, by rw [HT.out, HS.out]⟩
      case measure => simp [intOf]; omega
    · have HE := hide (Dt.txm_end (l := bl n) (p := p) (by rw [bl_length]; omega))
      have HF := hide (textsB_end n p (by rw [HT.out, HE.out]))
      by_cases h0 : (0 : Int) < (p : Int)
      · go_wp2
        go_ret
        exact ⟨ret_bool (by rw [HF.out, decide_eq_true h0, Bool.true_and]), rfl⟩
      · go_wp2
        go_ret
        exact ⟨ret_bool (by rw [HF.out, decide_eq_false (by omega), Bool.false_and]), rfl⟩

/-- A shape as a value. -/
def shV (s : Dt.Sh) (t : Bool) : Value := .agg #[.int .i64 s.a, .int .i64 s.n, .int .i64 s.b, .bool t]
def shEs : Array MapEntry := #[⟨.int .i64 1, shV ⟨4, 0, 0⟩ false, 0⟩, ⟨.int .i64 2, shV ⟨0, 1, 0⟩ false, 1⟩, ⟨.int .i64 5, shV ⟨0, 1, 0⟩ false, 2⟩, ⟨.int .i64 6, shV ⟨0, 2, 20⟩ false, 3⟩,
  ⟨.int .i64 12, shV ⟨0, 1, 0⟩ false, 4⟩, ⟨.int .i64 15, shV ⟨2, 1, 0⟩ false, 5⟩, ⟨.int .i64 16, shV ⟨0, 0, 0⟩ true, 6⟩, ⟨.int .i64 28, shV ⟨16, 0, 0⟩ false, 7⟩, ⟨.int .i64 33, shV ⟨6, 1, 0⟩ false, 8⟩]

theorem heap_alloc_at (w : World) (o : Obj) : (w.alloc o).heap[w.heap.size]? = some o := heap_alloc_new w o
theorem set_alloc (w : World) (o o' : Obj) : ({ (w.alloc o) with heap := (w.alloc o).heap.setIfInBounds w.heap.size o' } : World) = w.alloc o' := by
  have e : (w.heap.push o).setIfInBounds w.heap.size o' = w.heap.push o' := by
    rw [← Array.toList_inj, Array.toList_setIfInBounds, Array.toList_push, Array.toList_push, show w.heap.size = w.heap.toList.length from by simp, List.set_append_right _ _ (Nat.le_refl _), Nat.sub_self]
    rfl
  show ({ w with heap := (w.heap.push o).setIfInBounds w.heap.size o' } : World) = { w with heap := w.heap.push o' }
  rw [e]
theorem run_put (w : World) (es : Array MapEntry) (c : Nat) (k : Int) (v : Value) (h : Instr.findNow (.int .i64) (.int .i64 k) es.toList 0 = some none) :
    (Instr.mapUpdate 189 (.map (some w.heap.size)) (.int .i64 k) v).run Try.prog (w.alloc (.map es c)) = .ok () (w.alloc (.map (es.push ⟨.int .i64 k, v, c⟩) (c + 1))) := by
  have hb := heap_alloc_at w (.map es c)
  have hk : MapKept.IsKey (.int .i64) (.int .i64 k) := rfl
  simp [Instr.mapUpdate, run_underlying Try.underlying189, MapKept.run_getObj_map hb, MapKept.run_checkKey Try.underlying3 hk, MapKept.run_findKey Try.underlying3 h, MapKept.run_setObj_map _ hb, Result.andThen]
  exact set_alloc w _ _
set_option maxRecDepth 100000 in
set_option maxHeartbeats 800000 in
theorem shapes_any (w : World) :
    Calls Try.prog 139 #[] w fun e w' => e = .returned (.map (some w.heap.size)) ∧ w' = w.alloc (.map shEs 9) := by
  have hmm := @run_makeMap Try.prog
  go_enter Try.func139, Try.ntmps139
  go_wp2_with fail
  repeat (rw [run_put _ _ _ _ _ (by rfl)]; go_wp2_with fail)
  go_ret
  exact ⟨rfl, rfl⟩
end Go.Proofs.Ytdlaepfnogmebaa

namespace Go.Proofs.Ytdlaepfnogmebaa
open Go.RowKit

/-- Data taken apart, as a value in the world w. -/
def PtAt (w : World) (v : Value) (x : Dt.Pt) : Prop := ∃ u, v = .agg #[.string ⟨x.a.toArray⟩, u, .string ⟨x.b.toArray⟩] ∧ ReadS w u x.ns
theorem PtAt.mk {w : World} {u : Value} {x : Dt.Pt} (A B : ByteArray) (hA : bl A = x.a) (hB : bl B = x.b) (h : ReadS w u x.ns) : PtAt w (.agg #[.string A, u, .string B]) x :=
  ⟨u, by rw [← hA, ← hB]; simp [bl], h⟩
theorem PtAt.keeps {w w' : World} {v : Value} {x : Dt.Pt} (h : PtAt w v x) (k : Keeps w w') : PtAt w' v x := by
  obtain ⟨u, rfl, h⟩ := h
  exact ⟨u, rfl, h.keeps k⟩

def joinP (x : Dt.Pt) : ByteArray := ⟨x.join.toArray⟩
theorem bl_joinP (x : Dt.Pt) : bl (joinP x) = x.join := bl_mk _

/-- The three cells of data that was boxed in block B, in a world behind W. -/
def Three (W : World) (B : Nat) (p q r u : Value) (ns : List (List UInt8)) (w : World) : Prop :=
  w.cell? ⟨B, 0, none⟩ = some p ∧ w.cell? ⟨B, 1, none⟩ = some q ∧ w.cell? ⟨B, 2, none⟩ = some r ∧ B < w.heap.size ∧ ReadS w u ns ∧ Keeps W w
theorem Three.keeps {W : World} {B : Nat} {p q r u : Value} {ns : List (List UInt8)} {w w' : World} (h : Three W B p q r u ns w) (hk : Keeps w w') : Three W B p q r u ns w' :=
  ⟨(hk.cell (p := ⟨B, 0, none⟩) h.2.2.2.1).trans h.1, (hk.cell (p := ⟨B, 1, none⟩) h.2.2.2.1).trans h.2.1, (hk.cell (p := ⟨B, 2, none⟩) h.2.2.2.1).trans h.2.2.1, Nat.lt_of_lt_of_le h.2.2.2.1 hk.size, h.2.2.2.2.1.keeps hk, h.2.2.2.2.2.trans hk⟩
theorem Three.made (w : World) (p q r u : Value) (ns : List (List UInt8)) (t : TypeId) (h : ReadS w u ns) : Three w w.heap.size p q r u ns (w.alloc (.cells #[p, q, r] t)) := by
  refine ⟨?_, ?_, ?_, by simp, h.keeps ((Keeps.refl _).alloc _), (Keeps.refl _).alloc _⟩
  · exact (World.cell?_alloc_mark w _ _ (0, 0) 0).trans rfl
  · exact (World.cell?_alloc_mark w _ _ (0, 0) 1).trans rfl
  · exact (World.cell?_alloc_mark w _ _ (0, 0) 2).trans rfl

set_option maxHeartbeats 800000 in
theorem djoin_any (v : Value) (x : Dt.Pt) (w : World) (h : PtAt w v x) (hn : x.ns.length ≤ 1000000) (hl : x.join.length ≤ 1000000) :
    Calls Try.prog 131 #[v] w fun e w' => e = .returned (.string (joinP x)) ∧ Keeps w w' := by
  obtain ⟨u, rfl, hu⟩ := h
  have hl2 := hl
  simp only [Dt.Pt.join, List.length_append] at hl2
  have HJ : Hid (joinP x = ⟨x.a.toArray⟩ ++ ⟨x.ns.flatten.toArray⟩ ++ ⟨x.b.toArray⟩) := by
    apply bl_inj
    rw [bl_joinP, bl_append, bl_append, bl_mk, bl_mk, bl_mk]
    rfl
  have hsa : (⟨x.a.toArray⟩ : ByteArray).size = x.a.length := by rw [← bl_length, bl_mk]
  have hsb : (⟨x.b.toArray⟩ : ByteArray).size = x.b.length := by rw [← bl_length, bl_mk]
  have hsn : (⟨x.ns.flatten.toArray⟩ : ByteArray).size = x.ns.flatten.length := by rw [← bl_length, bl_mk]
  have hJ := fun w h => strings_join u x.ns w h hn (by omega)
  have h1 : ∀ w, (Op.stringOp .add (⟨x.a.toArray⟩ : ByteArray) ⟨x.ns.flatten.toArray⟩).run Try.prog w = .ok (.string (⟨x.a.toArray⟩ ++ ⟨x.ns.flatten.toArray⟩)) w := fun w => run_string_add_sum w _ _ (by omega)
  have h2 : ∀ w, (Op.stringOp .add (⟨x.a.toArray⟩ ++ ⟨x.ns.flatten.toArray⟩ : ByteArray) ⟨x.b.toArray⟩).run Try.prog w = .ok (.string (⟨x.a.toArray⟩ ++ ⟨x.ns.flatten.toArray⟩ ++ ⟨x.b.toArray⟩)) w := fun w => run_string_add_sum w _ _ (by rw [ByteArray.size_append]; omega)
  generalize (⟨x.a.toArray⟩ : ByteArray) = A at *
  generalize (⟨x.b.toArray⟩ : ByteArray) = B at *
  generalize (⟨x.ns.flatten.toArray⟩ : ByteArray) = C at *
  have T0 := Three.made w (.string A) u (.string B) u x.ns 169 hu
  generalize hB : w.heap.size = G at T0
  go_enter Try.func131, Try.ntmps131
  go_wp2_with fail
  generalize w.alloc (.cells #[.string A, u, .string B] 169) = W at *
  clear hB
  have T1 := T0.keeps (Keeps.refl W).drew
  go_region_held3 (fun w' => w'.cell? ⟨G, 0, none⟩ = some (.string A) ∧ w'.cell? ⟨G, 1, none⟩ = some u ∧ w'.cell? ⟨G, 2, none⟩ = some (.string B) ∧ G < w'.heap.size ∧ ReadS w' u x.ns ∧ Keeps w w') ((first | exact T1 | exact Three.keeps (by assumption) (by assumption))) ((go_at_call 138; refine (hJ _ T1.2.2.2.2.1).mono ?_; rintro e w1 ⟨rfl, k1⟩))
  go_wp2
  go_ret
  exact ⟨ret_str HJ.out.symm, T1.2.2.2.2.2.trans k1⟩
end Go.Proofs.Ytdlaepfnogmebaa

namespace Go.Proofs.Ytdlaepfnogmebaa
open Go.RowKit

/-- Data taken apart, whose list of names the call itself made. -/
def PtOwn (w : World) (B : Nat) (v : Value) (x : Dt.Pt) : Prop := ∃ u, v = .agg #[.string ⟨x.a.toArray⟩, u, .string ⟨x.b.toArray⟩] ∧ OwnsS w B u x.ns
theorem PtOwn.mk {w : World} {B : Nat} {u : Value} {x : Dt.Pt} (A C : ByteArray) (hA : bl A = x.a) (hC : bl C = x.b) (h : OwnsS w B u x.ns) : PtOwn w B (.agg #[.string A, u, .string C]) x :=
  ⟨u, by rw [← hA, ← hC]; simp [bl], h⟩
theorem PtOwn.at_ {w : World} {B : Nat} {v : Value} {x : Dt.Pt} (h : PtOwn w B v x) : PtAt w v x := by
  obtain ⟨u, rfl, h⟩ := h
  exact ⟨u, rfl, h.read⟩
theorem PtOwn.below {w w' : World} {B : Nat} {v : Value} {x : Dt.Pt} (h : PtOwn w B v x) (k : Keeps w w') : PtOwn w' B v x := by
  obtain ⟨u, rfl, h⟩ := h
  exact ⟨u, rfl, h.below k⟩
theorem PtOwn.le {w : World} {B B' : Nat} {v : Value} {x : Dt.Pt} (h : PtOwn w B v x) (hb : B' ≤ B) : PtOwn w B' v x := by
  obtain ⟨u, rfl, h⟩ := h
  exact ⟨u, rfl, h.le hb⟩
def noPt : Value := .agg #[.string ⟨#[]⟩, .slice none 0 0, .string ⟨#[]⟩]
/-- What comes of a call that takes data apart. -/
def PtEnd (w : World) (r : Option Dt.Pt) (e : Ending) (w' : World) : Prop :=
  ∃ v, e = .returned (.tuple #[v, .bool r.isSome]) ∧ Keeps w w' ∧ (r = none → v = noPt) ∧ ∀ x, r = some x → PtOwn w' w.heap.size v x
theorem PtEnd.no {w w' : World} {r : Option Dt.Pt} (hr : r = none) (h : Keeps w w') : PtEnd w r (.returned (.tuple #[noPt, .bool false])) w' :=
  ⟨noPt, by rw [hr]; rfl, h, fun _ => rfl, fun x hx => by rw [hr] at hx; cases hx⟩
theorem PtEnd.yes {w w' : World} {r : Option Dt.Pt} {v : Value} {x : Dt.Pt} (hr : r = some x) (h : Keeps w w') (hx : PtOwn w' w.heap.size v x) : PtEnd w r (.returned (.tuple #[v, .bool true])) w' :=
  ⟨v, by rw [hr]; rfl, h, fun h => (by rw [hr] at h; cases h), fun y hy => by rw [hr] at hy; cases hy; exact hx⟩

theorem takeOk_nat (m : ByteArray) (p k : Nat) : Oct.takeOk m p k = decide (p + k ≤ m.size) := by
  rw [Bool.eq_iff_iff]
  simp only [Oct.takeOk, decide_eq_true_eq]
  omega
theorem takeS_nat (m : ByteArray) (p k : Nat) (h : p + k ≤ m.size) : bl (Oct.takeS m p k) = Dt.part (bl m) p k := by
  have : Oct.takeOk m p k = true := by rw [takeOk_nat]; simpa using h
  rw [Oct.takeS, if_pos this, bl_extract, Dt.part]
  congr 1
  omega

set_option maxHeartbeats 800000 in
theorem take_short (s : Dt.Sh) (t : Bool) (m : ByteArray) (p e : Nat) (w : World) (hm : m.size ≤ maxLen) (hp : p ≤ m.size) (_ : s.a ≤ 100) (h : ¬ p + s.a ≤ m.size) :
    Calls Try.prog 140 #[shV s t, .string m, .int .i64 p, .int .i64 e] w fun x w' => PtEnd w none x w' := by
  have hm' := hm
  unfold maxLen at hm'
  have h1 : Oct.takeOk m p s.a = false := by rw [takeOk_nat]; simpa using h
  unfold shV
  go_enter Try.func140, Try.ntmps140
  go_wp2_with (go_at_call 118; refine (take_any _ _ _ _ hm (by omega)).mono ?_; rintro e w' ⟨rfl, rfl⟩)
  exact bodyPost_ret (v := .tuple #[noPt, .bool false]) (by simp [results, Try.results140, go_sem, noPt]) rfl (PtEnd.no rfl (((Keeps.refl _).alloc _).alloc _))

theorem OwnsS.other {w : World} {B : Nat} {v : Value} {l : List (List UInt8)} (h : OwnsS w B v l) {a : Addr} (ha : a.block < B) (u : Value) : OwnsS (w.setCell a u) B v l := by
  refine ⟨h.1, ?_⟩
  rcases h.2 with hn | ⟨g, cap, cur, rfl, hB, hg, rest⟩
  · exact .inl hn
  · exact .inr ⟨g, cap, cur, rfl, hB, by rw [heap_setCell_other w a g u (by omega)]; exact hg, rest⟩

theorem rds_step_yes {l : List UInt8} {n j q : Nat} {ds : List (List UInt8)} {z : Option (List (List UInt8) × Nat)} (h : z = (Dt.rds l (n - j) q).map (fun x => (ds ++ x.1, x.2))) (hj : j < n) (he : (Cm.readL l q).e = 0) :
    z = (Dt.rds l (n - (j + 1)) (Cm.readL l q).next).map (fun x => ((ds ++ [(Cm.readL l q).n]) ++ x.1, x.2)) := by
  rw [h, show n - j = (n - (j + 1)) + 1 by omega, Dt.rds, if_pos he, Option.map_map]
  congr 1
  funext x
  simp
theorem rds_step_no {l : List UInt8} {n j q : Nat} {ds : List (List UInt8)} {z : Option (List (List UInt8) × Nat)} (h : z = (Dt.rds l (n - j) q).map (fun x => (ds ++ x.1, x.2))) (hj : j < n) (he : (Cm.readL l q).e ≠ 0) : z = none := by
  rw [h, show n - j = (n - (j + 1)) + 1 by omega, Dt.rds, if_neg he]
  rfl

def TkRel (m : ByteArray) (n : Nat) (z : Option (List (List UInt8) × Nat)) (W : World) (a b i : Value) (wr : World) : Prop :=
  ∃ (j q : Nat) (ds : List (List UInt8)), j ≤ n ∧ ds.length = j ∧ i = .int .i64 j ∧ b = .int .i64 q ∧ q ≤ m.size ∧ OwnsS wr W.heap.size a ds ∧ z = (Dt.rds (bl m) (n - j) q).map (fun x => (ds ++ x.1, x.2)) ∧ Below W.heap.size W wr
theorem TkRel.mk {m : ByteArray} {n : Nat} {z : Option (List (List UInt8) × Nat)} {W wr : World} {a : Value} (j q : Nat) (ds : List (List UInt8)) (h1 : j ≤ n) (h2 : ds.length = j) (h3 : q ≤ m.size) (h4 : OwnsS wr W.heap.size a ds) (h5 : z = (Dt.rds (bl m) (n - j) q).map (fun x => (ds ++ x.1, x.2))) (h6 : Below W.heap.size W wr) :
    TkRel m n z W a (.int .i64 q) (.int .i64 j) wr := ⟨j, q, ds, h1, h2, rfl, rfl, h3, h4, h5, h6⟩

def tkOf (l : List UInt8) (p e : Nat) (s : Dt.Sh) (z : Option (List (List UInt8) × Nat)) : Option Dt.Pt :=
  match z with
  | none => none
  | some (ns, q) => if q + s.b = e then some ⟨Dt.part l p s.a, ns, Dt.part l q s.b⟩ else none
theorem tkOf_none (l : List UInt8) (p e : Nat) (s : Dt.Sh) : tkOf l p e s none = none := rfl
theorem tkOf_yes (l : List UInt8) (p e : Nat) (s : Dt.Sh) (ns : List (List UInt8)) (q : Nat) (h : q + s.b = e) : tkOf l p e s (some (ns, q)) = some ⟨Dt.part l p s.a, ns, Dt.part l q s.b⟩ := if_pos h
theorem tkOf_no (l : List UInt8) (p e : Nat) (s : Dt.Sh) (ns : List (List UInt8)) (q : Nat) (h : ¬ q + s.b = e) : tkOf l p e s (some (ns, q)) = none := if_neg h
theorem takeL_of {l : List UInt8} {p : Nat} (e : Nat) {s : Dt.Sh} (h : p + s.a ≤ l.length) : Dt.takeL l p e s = tkOf l p e s (Dt.rds l s.n (p + s.a)) := if_pos h

/-- The cells that take has laid. -/
def TkW (w : World) (s : Dt.Sh) (W : World) : Prop :=
  W.cell? ⟨w.heap.size, 2, none⟩ = some (.int .i64 s.b) ∧ W.cell? ⟨w.heap.size + 1, 0, none⟩ = some (.string ⟨#[]⟩) ∧ W.cell? ⟨w.heap.size + 1, 1, none⟩ = some (.slice none 0 0) ∧ W.cell? ⟨w.heap.size + 1, 2, none⟩ = some (.string ⟨#[]⟩) ∧
  (W.frozen? ⟨w.heap.size + 1, 0, none⟩ = false ∧ W.frozen? ⟨w.heap.size + 1, 1, none⟩ = false ∧ W.frozen? ⟨w.heap.size + 1, 2, none⟩ = false) ∧ w.heap.size + 1 < W.heap.size ∧ Keeps w W
theorem TkW.below {w W W' : World} {s : Dt.Sh} (h : TkW w s W) (hb : Below W.heap.size W W') : TkW w s W' := by
  obtain ⟨h1, h2, h3, h4, ⟨h5, h6, h7⟩, h8, h9⟩ := h
  obtain ⟨hc, hf⟩ := bcell hb
  exact ⟨(hc _ _ (by omega)).trans h1, (hc _ _ h8).trans h2, (hc _ _ h8).trans h3, (hc _ _ h8).trans h4, ⟨(hf _ _ h8).trans h5, (hf _ _ h8).trans h6, (hf _ _ h8).trans h7⟩, Nat.lt_of_lt_of_le h8 hb.size, h9.trans hb⟩
theorem TkW.made (w : World) (s : Dt.Sh) (t : Bool) : TkW w s ((w.alloc (.cells #[.int .i64 s.a, .int .i64 s.n, .int .i64 s.b, .bool t] 187)).alloc (.cells #[.string ⟨#[]⟩, .slice none 0 0, .string ⟨#[]⟩] 169)) := by
  refine ⟨?_, ?_, ?_, ?_, ⟨?_, ?_, ?_⟩, ?_, ((Keeps.refl _).alloc _).alloc _⟩ <;> go_simp

set_option maxHeartbeats 2000000 in
set_option maxRecDepth 100000 in
theorem take_long (s : Dt.Sh) (t : Bool) (m : ByteArray) (p e : Nat) (w : World) (z : Option (List (List UInt8) × Nat)) (hm : m.size ≤ maxLen) (he : e ≤ m.size) (hs : s.a ≤ 100) (hsn : s.n ≤ 100) (h : p + s.a ≤ m.size) (hz : Hid (z = Dt.rds (bl m) s.n (p + s.a))) :
    Calls Try.prog 140 #[shV s t, .string m, .int .i64 p, .int .i64 e] w fun x w' => PtEnd w (Dt.takeL (bl m) p e s) x w' := by
  have hm' := hm
  unfold maxLen at hm'
  have h1 : Oct.takeOk m p s.a = true := by rw [takeOk_nat]; simpa using h
  have HT : Hid (Dt.takeL (bl m) p e s = tkOf (bl m) p e s z) := by
    unfold Hid
    rw [hz.out]; exact takeL_of e (by rw [bl_length]; exact h)
  have HA := hide (takeS_nat m p s.a h)
  generalize Dt.takeL (bl m) p e s = R at *
  have HW := TkW.made w s t
  unfold shV
  go_enter Try.func140, Try.ntmps140
  go_wp2_with (go_at_call 118; refine (take_any _ _ _ _ hm (by omega)).mono ?_; rintro e w' ⟨rfl, rfl⟩)
  generalize Oct.takeS m p s.a = A at *
  generalize (w.alloc (.cells #[.int .i64 s.a, .int .i64 s.n, .int .i64 s.b, .bool t] 187)).alloc (.cells #[.string ⟨#[]⟩, .slice none 0 0, .string ⟨#[]⟩] 169) = W at *
  go_loopw [12, 13, 35] (fun a b i wr => TkRel m s.n z W a b i wr) (fun _ _ i _ => s.n - (intOf i).toNat)
  case atStart =>
    have : ((p : Int) + (s.a : Int)) = ((p + s.a : Nat) : Int) := by omega
    rw [this]
    exact TkRel.mk 0 _ [] (by omega) rfl h (OwnsS.nil _ _) (by rw [hz.out]; simp) (Below.refl _ _)
  case round =>
    obtain ⟨j, q, ds, hj, hds, rfl, rfl, hq, hown, hz2, hbel⟩ := hrel
    have HZ := hide hz2
    clear hz2 hz
    have hsb := hbel.size
    have HW2 := HW.below hbel
    have hw1 : w.heap.size + 1 < W.heap.size := HW.2.2.2.2.2.1
    have hw0 : w.heap.size ≤ W.heap.size := by omega
    clear HW
    by_cases hlt : j < s.n
    · have hr := Cm.read_names (bl m) q
      generalize hrr : Cm.readL (bl m) q = r at *
      have HRR := hide hrr
      clear hrr
      by_cases he0 : r.e = 0
      · have hnx : r.next ≤ m.size := by
          rcases hr with h | h | ⟨n, k, h, _, _, _, h5⟩
          · rw [h]; simp [Cm.bad]
          · rw [h]; simp [Cm.bad]
          · rw [h, ← bl_length]; exact h5
        have HS : Hid (z = (Dt.rds (bl m) (s.n - (j + 1)) r.next).map (fun x => ((ds ++ [r.n]) ++ x.1, x.2))) := by
          unfold Hid
          rw [← HRR.out]
          exact rds_step_yes HZ.out hlt (by rw [HRR.out]; exact he0)
        have HE : Hid ((r.e : Int) = 0) := by unfold Hid; omega
        clear hr he0
        go_wp2_with fail
        refine (read_any _ _ _ hm (by omega)).mono ?_
        rintro e w1 ⟨rfl, k1⟩
        rw [HRR.out, HE.out]
        have hbel1 := hbel.trans (k1.mono hsb)
        have hsb1 := hbel1.size
        have hown1 := hown.below k1
        clear hown hbel k1
        go_wp2_with (at_builtin; refine wpList_appS _ rfl _ _ rfl W.heap.size _ _ rfl (hown1.alloc _) _ _ (bl (rrS r)) rfl ?c1 ?c2 ?c3 ?_)
        case c1 => first | exact cell_str _ _ _ | exact (sv_bl _).symm
        case c2 => omega
        case c3 => first | omega | (simp; omega)
        intro v' w2 hown' hb' _
        have hbel' := (hbel1.alloc hsb1 _).trans hb'
        clear hb' hown1 hbel1
        go_wp2
        go_roundw
        case rel =>
          rw [show bl (rrS r) = r.n from bl_mk _] at hown'
          exact TkRel.mk (j + 1) r.next _ (by omega) (by simp [hds]) hnx hown' HS.out hbel'
        case measure => simp [intOf]; omega
      · have HE : ((r.e : Int) != 0) = true := by rw [bne_iff_ne]; omega
        have HF : Hid (R = none) := by
          unfold Hid
          rw [HT.out, rds_step_no HZ.out hlt (by rw [HRR.out]; exact he0)]
          rfl
        clear hr he0
        go_wp2_with fail
        refine (read_any _ _ _ hm (by omega)).mono ?_
        rintro e w1 ⟨rfl, k1⟩
        rw [HRR.out]
        have HW3 := HW2.below k1
        obtain ⟨d1, d2, d3, d4, ⟨d5, d6, d7⟩, d8, d9⟩ := HW3
        clear HW2 hown hbel k1
        go_wp2
        exact bodyPost_ret (v := .tuple #[noPt, .bool false]) (by simp [results, Try.results140, go_sem, noPt, d2, d3, d4]) rfl (PtEnd.no HF.out (((d9.setCell (by simp) _).setCell (by simp) _).setCell (by simp) _))
    · have hjn : s.n - j = 0 := by omega
      have HZ2 : Hid (R = tkOf (bl m) p e s (some (ds, q))) := by
        unfold Hid
        rw [HT.out, HZ.out, hjn, Dt.rds]
        simp
      clear HZ HT hjn
      obtain ⟨d1, d2, d3, d4, ⟨d5, d6, d7⟩, d8, d9⟩ := HW2
      subst hds
      obtain ⟨ua, uc, rfl⟩ := hown.read.len
      by_cases hqe : q ≤ e
      · obtain ⟨k, hk⟩ : ∃ k, e = q + k := ⟨e - q, by omega⟩
        have ho : Oct.takeOk m q k = true := by rw [takeOk_nat]; simp; omega
        have HB := hide (takeS_nat m q k (by omega))
        have hsz := Oct.takeS_size m q k ho
        generalize hC : Oct.takeS m q k = C at *
        have HC := hide hC
        have HK : Hid ((e : Int) - (q : Int) = (k : Int)) := by unfold Hid; omega
        have HE := hide hk
        clear hC hk
        by_cases hb : k = s.b
        · have HF : Hid (R = some ⟨Dt.part (bl m) p s.a, ds, Dt.part (bl m) q k⟩) := by
            unfold Hid
            rw [HZ2.out, hb]
            exact tkOf_yes _ _ _ _ _ _ (by rw [HE.out, hb])
          have hne : ((C.size : Int) != (s.b : Int)) = false := by rw [hsz, hb]; simp
          clear hsz hb
          go_wp2_with fail
          rw [HK.out]
          refine (take_any _ _ _ _ hm (by omega)).mono ?_
          rintro e w1 ⟨rfl, hwe⟩
          subst hwe
          rw [HC.out, ho]
          go_wp2
          have o1 := ((hown.other (a := ⟨w.heap.size + 1, 0, none⟩) hw1 (.string A)).other (a := ⟨w.heap.size + 1, 1, none⟩) hw1 (.slice ua ds.length uc)).other (a := ⟨w.heap.size + 1, 2, none⟩) hw1 (.string C)
          exact bodyPost_ret (v := .tuple #[.agg #[.string A, .slice ua ds.length uc, .string C], .bool true]) (by simp [results, Try.results140, go_sem, d2, d3, d4]) rfl (PtEnd.yes HF.out (((d9.setCell (by simp) _).setCell (by simp) _).setCell (by simp) _) (PtOwn.le (PtOwn.mk A C HA.out HB.out o1) hw0))
        · have HF : Hid (R = none) := by
            unfold Hid
            rw [HZ2.out]
            refine tkOf_no _ _ _ _ _ _ ?_
            rw [HE.out]; omega
          have hne : ((C.size : Int) != (s.b : Int)) = true := by rw [hsz, bne_iff_ne]; omega
          clear hsz hb
          go_wp2_with fail
          rw [HK.out]
          refine (take_any _ _ _ _ hm (by omega)).mono ?_
          rintro e w1 ⟨rfl, hwe⟩
          subst hwe
          rw [HC.out, ho]
          go_wp2
          exact bodyPost_ret (v := .tuple #[noPt, .bool false]) (by simp [results, Try.results140, go_sem, noPt, d2, d3, d4]) rfl (PtEnd.no HF.out (((d9.setCell (by simp) _).setCell (by simp) _).setCell (by simp) _))
      · have HF : Hid (R = none) := by
          unfold Hid
          rw [HZ2.out]
          exact tkOf_no _ _ _ _ _ _ (by omega)
        have ho : Oct.takeOk m q ((e : Int) - (q : Int)) = false := by
          simp only [Oct.takeOk, decide_eq_false_iff_not]; omega
        go_wp2_with fail
        refine (take_any _ _ _ _ hm (by omega)).mono ?_
        rintro e w1 ⟨rfl, hwe⟩
        subst hwe
        rw [ho]
        go_wp2
        exact bodyPost_ret (v := .tuple #[noPt, .bool false]) (by simp [results, Try.results140, go_sem, noPt, d2, d3, d4]) rfl (PtEnd.no HF.out (((d9.setCell (by simp) _).setCell (by simp) _).setCell (by simp) _))

theorem takeP_any (s : Dt.Sh) (t : Bool) (m : ByteArray) (p e : Nat) (w : World) (hm : m.size ≤ maxLen) (hp : p ≤ m.size) (he : e ≤ m.size) (hs : s.a ≤ 100) (hsn : s.n ≤ 100) :
    Calls Try.prog 140 #[shV s t, .string m, .int .i64 p, .int .i64 e] w fun x w' => PtEnd w (Dt.takeL (bl m) p e s) x w' := by
  by_cases h : p + s.a ≤ m.size
  · exact take_long s t m p e w _ hm he hs hsn h (hide rfl)
  · rw [Dt.takeL, if_neg (by rw [bl_length]; exact h)]
    exact take_short s t m p e w hm hp hs h
end Go.Proofs.Ytdlaepfnogmebaa

namespace Go.Proofs.Ytdlaepfnogmebaa
open Go.RowKit

/-- What the map of shapes tells of a type. -/
def lookV (k : Int) : Value := match Dt.shp k with | some s => shV s false | none => shV ⟨0, 0, 0⟩ (k == 16)
def lookOk (k : Int) : Bool := (Dt.shp k).isSome || k == 16
def shKinds : List Int := [1, 2, 5, 6, 12, 15, 16, 28, 33]
theorem find_hit (k : Int) (hk : k ∈ shKinds) : ∃ i, Instr.findNow (.int .i64) (.int .i64 k) shEs.toList 0 = some (some (i, lookV k)) ∧ lookOk k = true := by
  simp only [shKinds, List.mem_cons, List.not_mem_nil, or_false] at hk
  rcases hk with rfl | rfl | rfl | rfl | rfl | rfl | rfl | rfl | rfl <;> exact ⟨_, rfl, rfl⟩
theorem find_miss (k : Int) (hk : k ∉ shKinds) : Instr.findNow (.int .i64) (.int .i64 k) shEs.toList 0 = some none ∧ lookOk k = false ∧ lookV k = shV ⟨0, 0, 0⟩ false ∧ Dt.shp k = none := by
  simp only [shKinds, List.mem_cons, List.not_mem_nil, or_false, not_or] at hk
  obtain ⟨h1, h2, h3, h4, h5, h6, h7, h8, h9⟩ := hk
  have hs : Dt.shp k = none := by simp [Dt.shp, h1, h2, h3, h4, h5, h6, h8, h9]
  have f : ∀ a : Int, ¬ k = a → (k == a) = false := fun a h => beq_eq_false_iff_ne.2 h
  refine ⟨?_, by simp only [lookOk, hs, f _ h7]; rfl, by simp only [lookV, hs, f _ h7], hs⟩
  simp only [shEs, Instr.findNow, Instr.sameNow, f _ h1, f _ h2, f _ h3, f _ h4, f _ h5, f _ h6, f _ h7, f _ h8, f _ h9, if_true]
theorem zero_shape (w : World) : (zeroValue 187).run Try.prog w = .ok (shV ⟨0, 0, 0⟩ false) w := by kernel_rfl
theorem look_any (w : World) (r : Nat) (k : Int) (h : w.heap[r]? = some (.map shEs 9)) :
    (Instr.lookup 189 (.map (some r)) (.int .i64 k) true).run Try.prog w = .ok (.tuple #[lookV k, .bool (lookOk k)]) w := by
  have hk : MapKept.IsKey (.int .i64) (.int .i64 k) := rfl
  by_cases hm : k ∈ shKinds
  · obtain ⟨i, h1, h2⟩ := find_hit k hm
    simp [Instr.lookup, run_underlying Try.underlying189, MapKept.run_getObj_map h, MapKept.run_checkKey Try.underlying3 hk, MapKept.run_findKey Try.underlying3 h1, h2, Result.andThen]
  · obtain ⟨h1, h2, h3, _⟩ := find_miss k hm
    simp [Instr.lookup, run_underlying Try.underlying189, MapKept.run_getObj_map h, MapKept.run_checkKey Try.underlying3 hk, MapKept.run_findKey Try.underlying3 h1, h2, h3, Result.andThen]
    rfl

theorem look2 (w : World) (o : Obj) (k : Int) :
    (Instr.lookup 189 (.map (some (w.heap.size + 1))) (.int .i64 k) true).run Try.prog ((w.alloc o).alloc (.map shEs 9)) = .ok (.tuple #[lookV k, .bool (lookOk k)]) ((w.alloc o).alloc (.map shEs 9)) :=
  look_any _ _ k (by have := heap_alloc_at (w.alloc o) (.map shEs 9); simpa using this)

/-- Block B: the three cells of data taken apart, of zero values, that may be written. -/
def Zero3 (B : Nat) (W : World) : Prop :=
  W.cell? ⟨B, 0, none⟩ = some (.string ⟨#[]⟩) ∧ W.cell? ⟨B, 1, none⟩ = some (.slice none 0 0) ∧ W.cell? ⟨B, 2, none⟩ = some (.string ⟨#[]⟩) ∧
  (W.frozen? ⟨B, 0, none⟩ = false ∧ W.frozen? ⟨B, 1, none⟩ = false ∧ W.frozen? ⟨B, 2, none⟩ = false) ∧ B < W.heap.size
theorem Zero3.below {B : Nat} {W W' : World} (h : Zero3 B W) (hb : Keeps W W') : Zero3 B W' := by
  obtain ⟨h2, h3, h4, ⟨h5, h6, h7⟩, h8⟩ := h
  obtain ⟨hc, hf⟩ := bcell hb
  exact ⟨(hc _ _ h8).trans h2, (hc _ _ h8).trans h3, (hc _ _ h8).trans h4, ⟨(hf _ _ h8).trans h5, (hf _ _ h8).trans h6, (hf _ _ h8).trans h7⟩, Nat.lt_of_lt_of_le h8 (Below.size hb)⟩
theorem Zero3.made (w : World) (t : TypeId) : Zero3 w.heap.size (w.alloc (.cells #[.string ⟨#[]⟩, .slice none 0 0, .string ⟨#[]⟩] t)) := by
  refine ⟨?_, ?_, ?_, ⟨?_, ?_, ?_⟩, ?_⟩ <;> go_simp

set_option maxHeartbeats 2000000 in
set_option maxRecDepth 100000 in
theorem split_big (m : ByteArray) (p n : Nat) (k : Int) (w : World) (hm : m.size ≤ maxLen) (h : p + n ≤ m.size) (hn : 65535 < n) :
    Calls Try.prog 135 #[.string m, .int .i64 p, .int .i64 n, .int .i64 k] w fun e w' => PtEnd w (Dt.splitL (bl m) p n k) e w' := by
  have hm' := hm
  unfold maxLen at hm'
  have HR : Hid (Dt.splitL (bl m) p n k = none) := if_pos hn
  have ho : Oct.takeOk m p n = true := by rw [takeOk_nat]; simpa using h
  go_enter Try.func135, Try.ntmps135
  go_wp2_with (go_at_call 118; refine (take_any _ _ _ _ hm (by omega)).mono ?_; rintro e w' ⟨rfl, rfl⟩)
  exact bodyPost_ret (v := .tuple #[noPt, .bool false]) (by simp [results, Try.results135, go_sem, noPt]) rfl (PtEnd.no HR.out ((Keeps.refl _).alloc _))

set_option maxHeartbeats 2000000 in
set_option maxRecDepth 100000 in
theorem split_shape (m : ByteArray) (p n : Nat) (k : Int) (s : Dt.Sh) (w : World) (hm : m.size ≤ maxLen) (h : p + n ≤ m.size) (hn : ¬ 65535 < n) (hs : Dt.shp k = some s) :
    Calls Try.prog 135 #[.string m, .int .i64 p, .int .i64 n, .int .i64 k] w fun e w' => PtEnd w (Dt.splitL (bl m) p n k) e w' := by
  have hm' := hm
  unfold maxLen at hm'
  have hsm := Dt.shp_small hs
  have hR : Dt.splitL (bl m) p n k = Dt.takeL (bl m) p (p + n) s := by rw [Dt.splitL, if_neg hn, hs]
  rw [hR]
  clear hR
  have hT := fun W => takeP_any s false m p (p + n) W hm (by omega) h (by omega) (by omega)
  generalize Dt.takeL (bl m) p (p + n) s = R at *
  have HT := hide hT
  clear hT
  have ho : Oct.takeOk m p n = true := by rw [takeOk_nat]; simpa using h
  have HL1 : lookV k = .agg #[.int .i64 s.a, .int .i64 s.n, .int .i64 s.b, .bool false] := by simp [lookV, hs, shV]
  have HL2 : lookOk k = true := by simp [lookOk, hs]
  clear hs
  have HV1 := hide HL1
  have HV2 := hide HL2
  clear HL1 HL2
  go_enter Try.func135, Try.ntmps135
  go_wp2_with fail
  refine (take_any _ _ _ _ hm (by omega)).mono ?_
  rintro e w1 ⟨rfl, rfl⟩
  go_wp2_with fail
  refine (shapes_any _).mono ?_
  rintro e w2 ⟨rfl, rfl⟩
  go_wp2_with fail
  rw [look2, HV1.out, HV2.out]
  go_wp2_with fail
  have Z0 := ((Zero3.made w 169).below ((Keeps.refl _).alloc (.map shEs 9))).below ((Keeps.refl _).alloc (.cells #[.int .i64 s.a, .int .i64 s.n, .int .i64 s.b, .bool false] 187))
  have K0 : Keeps w (((w.alloc (.cells #[.string ⟨#[]⟩, .slice none 0 0, .string ⟨#[]⟩] 169)).alloc (.map shEs 9)).alloc (.cells #[.int .i64 s.a, .int .i64 s.n, .int .i64 s.b, .bool false] 187)) := (((Keeps.refl _).alloc _).alloc _).alloc _
  generalize ((w.alloc (.cells #[.string ⟨#[]⟩, .slice none 0 0, .string ⟨#[]⟩] 169)).alloc (.map shEs 9)).alloc (.cells #[.int .i64 s.a, .int .i64 s.n, .int .i64 s.b, .bool false] 187) = W at *
  rw [show ((p : Int) + (n : Int)) = ((p + n : Nat) : Int) by omega]
  refine (HT.out W).mono ?_
  rintro e w3 ⟨v, rfl, k3, hno, hyes⟩
  have hWs := Z0.2.2.2.2
  obtain ⟨d2, d3, d4, ⟨d5, d6, d7⟩, d8⟩ := Z0.below k3
  have d9 := K0.trans k3
  have HN := hide hno
  have HY := hide hyes
  clear hno hyes
  rcases Option.eq_none_or_eq_some R with hr | ⟨x, hr⟩
  · rw [HN.out hr, show R.isSome = false by rw [hr]; rfl]
    unfold noPt
    have HF := hide hr
    clear hr HN HY
    go_wp2
    exact bodyPost_ret (v := .tuple #[noPt, .bool false]) (by simp [results, Try.results135, go_sem, noPt, d2, d3, d4]) rfl (PtEnd.no HF.out (((d9.setCell (by simp) _).setCell (by simp) _).setCell (by simp) _))
  · obtain ⟨u, hv, hown⟩ := HY.out x hr
    subst hv
    obtain ⟨ua, uc, rfl⟩ := hown.read.len
    rw [show R.isSome = true by rw [hr]; rfl]
    have HF := hide hr
    clear HN HY hr
    generalize hxa : (⟨x.a.toArray⟩ : ByteArray) = A at *
    generalize hxb : (⟨x.b.toArray⟩ : ByteArray) = C at *
    have HA : Hid (bl A = x.a) := by unfold Hid; rw [← hxa]; exact bl_mk _
    have HC : Hid (bl C = x.b) := by unfold Hid; rw [← hxb]; exact bl_mk _
    clear hxa hxb
    go_wp2
    have o1 := ((hown.other (a := ⟨w.heap.size, 0, none⟩) hWs (.string A)).other (a := ⟨w.heap.size, 1, none⟩) hWs (.slice ua x.ns.length uc)).other (a := ⟨w.heap.size, 2, none⟩) hWs (.string C)
    exact bodyPost_ret (v := .tuple #[.agg #[.string A, .slice ua x.ns.length uc, .string C], .bool true]) (by simp [results, Try.results135, go_sem, d2, d3, d4]) rfl (PtEnd.yes HF.out (((d9.setCell (by simp) _).setCell (by simp) _).setCell (by simp) _) (PtOwn.le (PtOwn.mk A C HA.out HC.out o1) (by omega)))

set_option maxHeartbeats 2000000 in
set_option maxRecDepth 100000 in
theorem split_plain (m : ByteArray) (p n : Nat) (k : Int) (w : World) (hm : m.size ≤ maxLen) (h : p + n ≤ m.size) (hn : ¬ 65535 < n) (hs : Dt.shp k = none) (hk : ¬ k = 16) :
    Calls Try.prog 135 #[.string m, .int .i64 p, .int .i64 n, .int .i64 k] w fun e w' => PtEnd w (Dt.splitL (bl m) p n k) e w' := by
  have hm' := hm
  unfold maxLen at hm'
  have HR : Hid (Dt.splitL (bl m) p n k = some ⟨Dt.part (bl m) p n, [], []⟩) := by
    unfold Hid; rw [Dt.splitL, if_neg hn, hs]
    exact if_neg (fun h => hk h.1)
  have ho : Oct.takeOk m p n = true := by rw [takeOk_nat]; simpa using h
  have HA := hide (takeS_nat m p n h)
  have HV2 : Hid (lookOk k = false) := by simp [lookOk, hs, hk, Hid]
  have HV1 : Hid (lookV k = .agg #[.int .i64 0, .int .i64 0, .int .i64 0, .bool false]) := by
    have : (k == 16) = false := beq_eq_false_iff_ne.2 hk
    simp only [lookV, hs, shV, this, Hid]; rfl
  clear hs hk
  go_enter Try.func135, Try.ntmps135
  go_wp2_with fail
  refine (take_any _ _ _ _ hm (by omega)).mono ?_
  rintro e w1 ⟨rfl, rfl⟩
  go_wp2_with fail
  refine (shapes_any _).mono ?_
  rintro e w2 ⟨rfl, rfl⟩
  go_wp2_with fail
  rw [look2, HV1.out, HV2.out]
  generalize Oct.takeS m p n = A at *
  go_wp2
  exact bodyPost_ret (v := .tuple #[.agg #[.string A, .slice none 0 0, .string ⟨#[]⟩], .bool true]) (by simp [results, Try.results135, go_sem]) rfl (PtEnd.yes HR.out ((((Keeps.refl _).alloc _).alloc _).alloc _) (PtOwn.mk A ⟨#[]⟩ HA.out rfl (OwnsS.nil _ _)))

set_option maxHeartbeats 2000000 in
set_option maxRecDepth 100000 in
theorem split_texts (m : ByteArray) (p n : Nat) (w : World) (hm : m.size ≤ maxLen) (h : p + n ≤ m.size) (hn : ¬ 65535 < n) :
    Calls Try.prog 135 #[.string m, .int .i64 p, .int .i64 n, .int .i64 16] w fun e w' => PtEnd w (Dt.splitL (bl m) p n 16) e w' := by
  have hm' := hm
  unfold maxLen at hm'
  have hs : Dt.shp 16 = none := by decide
  have HR : Hid (Dt.splitL (bl m) p n 16 = if Dt.textsB (Dt.part (bl m) p n) = false then none else some ⟨Dt.part (bl m) p n, [], []⟩) := by
    unfold Hid; rw [Dt.splitL, if_neg hn, hs]
    simp
  have ho : Oct.takeOk m p n = true := by rw [takeOk_nat]; simpa using h
  have HA := hide (takeS_nat m p n h)
  have hsz := Oct.takeS_size m p n ho
  have HV2 : Hid (lookOk 16 = true) := by unfold Hid; decide
  have HV1 : Hid (lookV 16 = .agg #[.int .i64 0, .int .i64 0, .int .i64 0, .bool true]) := by unfold Hid; rfl
  clear hs
  cases hb : Dt.textsB (Dt.part (bl m) p n)
  · rw [hb, if_pos rfl] at HR
    have HB : Hid (Dt.textsB (bl (Oct.takeS m p n)) = false) := by unfold Hid; rw [HA.out]; exact hb
    clear hb
    go_enter Try.func135, Try.ntmps135
    go_wp2_with fail
    refine (take_any _ _ _ _ hm (by omega)).mono ?_
    rintro e w1 ⟨rfl, rfl⟩
    go_wp2_with fail
    refine (shapes_any _).mono ?_
    rintro e w2 ⟨rfl, rfl⟩
    go_wp2_with fail
    rw [look2, HV1.out, HV2.out]
    generalize Oct.takeS m p n = A at *
    go_wp2_with fail
    refine (areTexts_any _ _ (by omega)).mono ?_
    rintro e w3 ⟨rfl, rfl⟩
    rw [HB.out]
    go_wp2
    exact bodyPost_ret (v := .tuple #[noPt, .bool false]) (by simp [results, Try.results135, go_sem, noPt]) rfl (PtEnd.no HR.out ((((Keeps.refl _).alloc _).alloc _).alloc _))
  · rw [hb, if_neg (by simp)] at HR
    have HB : Hid (Dt.textsB (bl (Oct.takeS m p n)) = true) := by unfold Hid; rw [HA.out]; exact hb
    clear hb
    go_enter Try.func135, Try.ntmps135
    go_wp2_with fail
    refine (take_any _ _ _ _ hm (by omega)).mono ?_
    rintro e w1 ⟨rfl, rfl⟩
    go_wp2_with fail
    refine (shapes_any _).mono ?_
    rintro e w2 ⟨rfl, rfl⟩
    go_wp2_with fail
    rw [look2, HV1.out, HV2.out]
    generalize Oct.takeS m p n = A at *
    go_wp2_with fail
    refine (areTexts_any _ _ (by omega)).mono ?_
    rintro e w3 ⟨rfl, rfl⟩
    rw [HB.out]
    go_wp2
    exact bodyPost_ret (v := .tuple #[.agg #[.string A, .slice none 0 0, .string ⟨#[]⟩], .bool true]) (by simp [results, Try.results135, go_sem]) rfl (PtEnd.yes HR.out ((((Keeps.refl _).alloc _).alloc _).alloc _) (PtOwn.mk A ⟨#[]⟩ HA.out rfl (OwnsS.nil _ _)))

theorem split_any (m : ByteArray) (p n : Nat) (k : Int) (w : World) (hm : m.size ≤ maxLen) (h : p + n ≤ m.size) :
    Calls Try.prog 135 #[.string m, .int .i64 p, .int .i64 n, .int .i64 k] w fun e w' => PtEnd w (Dt.splitL (bl m) p n k) e w' := by
  by_cases hn : 65535 < n
  · exact split_big m p n k w hm h hn
  · cases hs : Dt.shp k with
    | some s => exact split_shape m p n k s w hm h hn hs
    | none =>
      by_cases hk : k = 16
      · subst hk
        exact split_texts m p n w hm h hn
      · exact split_plain m p n k w hm h hn hs hk
end Go.Proofs.Ytdlaepfnogmebaa

namespace Go.Proofs.Ytdlaepfnogmebaa
open Go.RowKit

def erS (r : Dt.ER) : ByteArray := ⟨r.d.toArray⟩
theorem inside_take (m : ByteArray) (p n : Int) : Dt.inside (bl m) p n = Oct.takeOk m p n := by
  simp only [Dt.inside, Oct.takeOk, bl_length]
theorem exp_out {m : ByteArray} {p n k : Int} (h : Oct.takeOk m p n = false) : Dt.expL (bl m) p n k = ⟨[], 2⟩ := by
  rw [Dt.expL, if_neg (by rw [inside_take, h]; simp)]
theorem exp_no {m : ByteArray} {p n : Nat} {k : Int} (h : p + n ≤ m.size) (hs : Dt.splitL (bl m) p n k = none) : Dt.expL (bl m) p n k = ⟨[], 4⟩ := by
  rw [Dt.expL, if_pos (by rw [inside_take, takeOk_nat]; simpa using h), Int.toNat_natCast, Int.toNat_natCast, hs]
theorem exp_yes {m : ByteArray} {p n : Nat} {k : Int} {x : Dt.Pt} (h : p + n ≤ m.size) (hs : Dt.splitL (bl m) p n k = some x) : Dt.expL (bl m) p n k = ⟨x.join, 0⟩ := by
  rw [Dt.expL, if_pos (by rw [inside_take, takeOk_nat]; simpa using h), Int.toNat_natCast, Int.toNat_natCast, hs]
theorem ret_str_int {a b : ByteArray} {c d : Int} (h : a = b) (g : c = d) : Ending.returned (.tuple #[.string a, .int .i64 c]) = .returned (.tuple #[.string b, .int .i64 d]) := by rw [h, g]

theorem whole_split {k : Int} {d : ByteArray} (h : Dt.splitL (bl d) 0 d.size k = none) : Dt.wholeL k (bl d) = none := by
  rw [Dt.wholeL, bl_length, h]
theorem whole_same {k : Int} {d : ByteArray} {x : Dt.Pt} (h : Dt.splitL (bl d) 0 d.size k = some x) (hj : joinP x = d) : Dt.wholeL k (bl d) = some x := by
  rw [Dt.wholeL, bl_length, h]
  exact if_pos (by rw [← bl_joinP, hj])
theorem whole_other {k : Int} {d : ByteArray} {x : Dt.Pt} (h : Dt.splitL (bl d) 0 d.size k = some x) (hj : joinP x ≠ d) : Dt.wholeL k (bl d) = none := by
  rw [Dt.wholeL, bl_length, h]
  exact if_neg (fun e => hj (bl_inj (by rw [bl_joinP, e])))

set_option maxHeartbeats 2000000 in
set_option maxRecDepth 100000 in
theorem splitWhole_any (k : Int) (d : ByteArray) (w : World) (hm : d.size ≤ maxLen) :
    Calls Try.prog 122 #[.int .i64 k, .string d] w fun e w' => PtEnd w (Dt.wholeL k (bl d)) e w' := by
  have hm' := hm
  unfold maxLen at hm'
  have hSp := fun W => split_any d 0 d.size k W hm (by omega)
  have hx := fun x => Dt.split_len (l := bl d) (p := 0) (n := d.size) (k := k) (x := x) (by rw [bl_length]; omega)
  have hE1 := fun hs => whole_split (k := k) (d := d) hs
  have hE2 := fun x hs => whole_same (k := k) (d := d) (x := x) hs
  have hE3 := fun x hs => whole_other (k := k) (d := d) (x := x) hs
  generalize Dt.splitL (bl d) 0 d.size k = R at *
  generalize Dt.wholeL k (bl d) = E at *
  have HSp := hide hSp
  have HX := hide hx
  have HE1 := hide hE1
  have HE2 := hide hE2
  have HE3 := hide hE3
  clear hSp hx hE1 hE2 hE3
  go_enter Try.func122, Try.ntmps122
  go_wp2_with fail
  have Z0 := Zero3.made w 169
  have K0 : Keeps w (w.alloc (.cells #[.string ⟨#[]⟩, .slice none 0 0, .string ⟨#[]⟩] 169)) := (Keeps.refl _).alloc _
  generalize w.alloc (.cells #[.string ⟨#[]⟩, .slice none 0 0, .string ⟨#[]⟩] 169) = W at *
  have hWs := Z0.2.2.2.2
  refine (HSp.out _).mono ?_
  rintro e w3 ⟨v, rfl, k3, hno, hyes⟩
  have HN := hide hno
  have HY := hide hyes
  clear hno hyes
  rcases Option.eq_none_or_eq_some R with hr | ⟨x, hr⟩
  · rw [HN.out hr, show R.isSome = false by rw [hr]; rfl]
    unfold noPt
    have HF := hide (HE1.out hr)
    clear hr HN HY HX HE1 HE2 HE3
    obtain ⟨d2, d3, d4, ⟨d5, d6, d7⟩, d8⟩ := Z0.below k3
    have d9 := K0.trans k3
    go_wp2
    exact bodyPost_ret (v := .tuple #[noPt, .bool false]) (by simp [results, Try.results122, go_sem, noPt, d2, d3, d4, d8]) rfl (PtEnd.no HF.out (Keeps.alloc (((d9.setCell (by simp) _).setCell (by simp) _).setCell (by simp) _) _))
  · obtain ⟨u, hv, hown⟩ := HY.out x hr
    subst hv
    obtain ⟨ua, uc, rfl⟩ := hown.read.len
    rw [show R.isSome = true by rw [hr]; rfl]
    have HF2 := hide (HE2.out x hr)
    have HF3 := hide (HE3.out x hr)
    have hb := HX.out x hr
    have hl1 := hb.1
    have hl2 := hb.2.1
    have hrd := hown.read
    clear HN HY HX HE1 HE2 hr hb
    generalize hxa : (⟨x.a.toArray⟩ : ByteArray) = A at *
    generalize hxb : (⟨x.b.toArray⟩ : ByteArray) = C at *
    have HA : Hid (bl A = x.a) := by unfold Hid; rw [← hxa]; exact bl_mk _
    have HC : Hid (bl C = x.b) := by unfold Hid; rw [← hxb]; exact bl_mk _
    clear hxa hxb
    go_wp2_with fail
    refine (djoin_any _ x _ (PtAt.mk A C HA.out HC.out (hrd.keeps ((Keeps.refl _).alloc _))) (by omega) (by omega)).mono ?_
    rintro e w4 ⟨rfl, k4⟩
    obtain ⟨e0, e1, e2, e3, hrd4, e4⟩ := (Three.made w3 (.string A) (.slice ua x.ns.length uc) (.string C) (.slice ua x.ns.length uc) x.ns 169 hrd).keeps k4
    have hown4 := (hown.alloc (.cells #[.string A, .slice ua x.ns.length uc, .string C] 169)).below k4
    obtain ⟨d2, d3, d4, ⟨d5, d6, d7⟩, d8⟩ := (Z0.below k3).below e4
    have d9 := (K0.trans k3).trans e4
    clear hown hrd k4 k3 e4 K0 Z0
    generalize hJ : joinP x = J at *
    clear hJ
    by_cases hJd : J = d
    · have HF := hide (HF2.out hJd)
      subst hJd
      clear HF2 HF3
      go_wp2
      have o1 := ((hown4.other (a := ⟨w.heap.size, 0, none⟩) hWs (.string A)).other (a := ⟨w.heap.size, 1, none⟩) hWs (.slice ua x.ns.length uc)).other (a := ⟨w.heap.size, 2, none⟩) hWs (.string C)
      exact bodyPost_ret (v := .tuple #[.agg #[.string A, .slice ua x.ns.length uc, .string C], .bool true]) (by simp [results, Try.results122, go_sem, d2, d3, d4]) rfl (PtEnd.yes HF.out (((d9.setCell (by simp) _).setCell (by simp) _).setCell (by simp) _) (PtOwn.le (PtOwn.mk A C HA.out HC.out o1) (by omega)))
    · have HF := hide (HF3.out hJd)
      have hne : (J.toList == d.toList) = false := by
        rw [toList_bl, toList_bl, beq_eq_false_iff_ne]
        exact fun e => hJd (bl_inj e)
      clear HF2 HF3 hJd
      go_wp2
      exact bodyPost_ret (v := .tuple #[noPt, .bool false]) (by simp [results, Try.results122, go_sem, noPt, d2, d3, d4]) rfl (PtEnd.no HF.out (((d9.setCell (by simp) _).setCell (by simp) _).setCell (by simp) _))
end Go.Proofs.Ytdlaepfnogmebaa

namespace Go.Proofs.Ytdlaepfnogmebaa
open Go.RowKit

set_option maxHeartbeats 1000000 in
theorem dcheck_any (k : Int) (d : ByteArray) (w : World) (hm : d.size ≤ maxLen) :
    Calls Try.prog 130 #[.int .i64 k, .string d] w fun e w' => e = .returned (.bool (Dt.checkB k (bl d))) ∧ Keeps w w' := by
  have hE : Dt.checkB k (bl d) = (Dt.wholeL k (bl d)).isSome := rfl
  rw [hE]
  clear hE
  have HS := hide (fun W => splitWhole_any k d W hm)
  generalize Dt.wholeL k (bl d) = R at *
  go_enter Try.func130, Try.ntmps130
  go_wp2_with fail
  refine (HS.out _).mono ?_
  rintro e w1 ⟨v, rfl, k1, hno, hyes⟩
  rcases Option.eq_none_or_eq_some R with hr | ⟨x, hr⟩
  · rw [hno hr]
    unfold noPt
    clear hr hno hyes
    go_wp2
    go_ret
    exact ⟨rfl, k1.alloc _⟩
  · obtain ⟨u, hv, hown⟩ := hyes x hr
    subst hv
    obtain ⟨ua, uc, rfl⟩ := hown.read.len
    clear hr hno hyes hown
    generalize (⟨x.a.toArray⟩ : ByteArray) = A at *
    generalize (⟨x.b.toArray⟩ : ByteArray) = C at *
    go_wp2
    go_ret
    exact ⟨rfl, k1.alloc _⟩

/-- What comes of Names. -/
def NamesEnd (w : World) (ns : List (List UInt8)) (e : Ending) (w' : World) : Prop := ∃ v, e = .returned v ∧ OwnsS w' w.heap.size v ns ∧ Keeps w w'
theorem NamesEnd.mk {w w' : World} {ns : List (List UInt8)} {v : Value} (h : OwnsS w' w.heap.size v ns) (k : Keeps w w') : NamesEnd w ns (.returned v) w' := ⟨v, rfl, h, k⟩
theorem namesL_none {k : Int} {d : List UInt8} (h : Dt.wholeL k d = none) : Dt.namesL k d = [] := by rw [Dt.namesL, h]
theorem namesL_some {k : Int} {d : List UInt8} {x : Dt.Pt} (h : Dt.wholeL k d = some x) : Dt.namesL k d = x.ns := by rw [Dt.namesL, h]

set_option maxHeartbeats 1000000 in
theorem dnames_any (k : Int) (d : ByteArray) (w : World) (hm : d.size ≤ maxLen) :
    Calls Try.prog 93 #[.int .i64 k, .string d] w fun e w' => NamesEnd w (Dt.namesL k (bl d)) e w' := by
  have HS := hide (fun W => splitWhole_any k d W hm)
  have HE1 := hide (fun h => namesL_none (k := k) (d := bl d) h)
  have HE2 := hide (fun x h => namesL_some (k := k) (d := bl d) (x := x) h)
  generalize Dt.wholeL k (bl d) = R at *
  generalize Dt.namesL k (bl d) = E at *
  go_enter Try.func93, Try.ntmps93
  go_wp2_with fail
  refine (HS.out _).mono ?_
  rintro e w1 ⟨v, rfl, k1, hno, hyes⟩
  rcases Option.eq_none_or_eq_some R with hr | ⟨x, hr⟩
  · rw [hno hr]
    unfold noPt
    have HF := hide (HE1.out hr)
    clear hr hno hyes HE1 HE2
    generalize R.isSome = b at *
    go_wp2
    go_ret
    exact NamesEnd.mk (by rw [HF.out]; exact OwnsS.nil _ _) (k1.alloc _)
  · obtain ⟨u, hv, hown⟩ := hyes x hr
    subst hv
    obtain ⟨ua, uc, rfl⟩ := hown.read.len
    have HF := hide (HE2.out x hr)
    clear hr hno hyes HE1 HE2
    generalize (⟨x.a.toArray⟩ : ByteArray) = A at *
    generalize (⟨x.b.toArray⟩ : ByteArray) = C at *
    generalize R.isSome = b at *
    go_wp2
    go_ret
    exact NamesEnd.mk (by rw [HF.out]; exact hown.alloc _) (k1.alloc _)

/-- The names, the first j of them in small letters. -/
def halfN (ls : List (List UInt8)) (j : Nat) : List (List UInt8) := (ls.take j).map Nm.lowL ++ ls.drop j
theorem halfN_len (ls : List (List UInt8)) (j : Nat) : (halfN ls j).length = ls.length := by
  unfold halfN; rw [List.length_append, List.length_map, List.length_take, List.length_drop]; omega
theorem halfN_zero (ls : List (List UInt8)) : halfN ls 0 = ls := rfl
theorem halfN_all (ls : List (List UInt8)) (j : Nat) (h : ls.length ≤ j) : halfN ls j = ls.map Nm.lowL := by
  unfold halfN; rw [List.take_of_length_le h, List.drop_of_length_le h, List.append_nil]
theorem halfN_get (ls : List (List UInt8)) (j : Nat) (h : j < ls.length) : (halfN ls j)[j]? = some ls[j] := by
  unfold halfN
  rw [List.getElem?_append_right (by rw [List.length_map, List.length_take]; omega), List.length_map, List.length_take, show j - min j ls.length = 0 by omega]
  rw [List.getElem?_drop]
  simp [h]
theorem halfN_set (ls : List (List UInt8)) (j : Nat) (h : j < ls.length) : (halfN ls j).set j (Nm.lowL ls[j]) = halfN ls (j + 1) := by
  unfold halfN
  have hl : ((ls.take j).map Nm.lowL).length = j := by rw [List.length_map, List.length_take]; omega
  rw [List.set_append_right _ _ (by omega), hl, Nat.sub_self, List.drop_eq_getElem_cons h, List.set_cons_zero]
  rw [List.take_succ_eq_append_getElem h, List.map_append]
  simp

theorem lowD_none {k : Int} {d : List UInt8} (h : Dt.wholeL k d = none) : Dt.lowD k d = [] := by rw [Dt.lowD, h]
theorem lowD_some {k : Int} {d : List UInt8} {x : Dt.Pt} (h : Dt.wholeL k d = some x) : Dt.lowD k d = x.low.join := by rw [Dt.lowD, h]; rfl
theorem low_of (k : Int) (d : List UInt8) {w w' : World} {v : Value} (hno : Dt.wholeL k d = none → v = noPt) (hyes : ∀ x, Dt.wholeL k d = some x → PtOwn w' w.heap.size v x) :
    ∃ x : Dt.Pt, PtOwn w' w.heap.size v x ∧ Dt.lowD k d = x.low.join ∧ x.ns.length ≤ 2 ∧ (∀ m ∈ x.ns, Nm.okL m = true) ∧ x.join.length ≤ 65535 := by
  rcases Option.eq_none_or_eq_some (Dt.wholeL k d) with hr | ⟨x, hr⟩
  · refine ⟨⟨[], [], []⟩, ?_, lowD_none hr, by simp, by simp, by simp [Dt.Pt.join]⟩
    rw [hno hr]
    exact PtOwn.mk ⟨#[]⟩ ⟨#[]⟩ rfl rfl (OwnsS.nil _ _)
  · have h := Dt.whole_names hr
    exact ⟨x, hyes x hr, lowD_some hr, h.1, h.2.1, by rw [(Dt.wholeL_join hr).1]; exact h.2.2⟩
/-- The cells of data that was boxed in block G. -/
def Box3 (G : Nat) (p q r : Value) (w : World) : Prop := w.cell? ⟨G, 0, none⟩ = some p ∧ w.cell? ⟨G, 1, none⟩ = some q ∧ w.cell? ⟨G, 2, none⟩ = some r ∧ G < w.heap.size
theorem Box3.keeps {G : Nat} {p q r : Value} {w w' : World} (h : Box3 G p q r w) (hk : Keeps w w') : Box3 G p q r w' :=
  ⟨(hk.cell (p := ⟨G, 0, none⟩) h.2.2.2).trans h.1, (hk.cell (p := ⟨G, 1, none⟩) h.2.2.2).trans h.2.1, (hk.cell (p := ⟨G, 2, none⟩) h.2.2.2).trans h.2.2.1, Nat.lt_of_lt_of_le h.2.2.2 hk.size⟩
theorem Box3.made (w : World) (p q r : Value) (t : TypeId) : Box3 w.heap.size p q r (w.alloc (.cells #[p, q, r] t)) := by
  refine ⟨?_, ?_, ?_, by simp⟩
  · exact (World.cell?_alloc_mark w _ _ (0, 0) 0).trans rfl
  · exact (World.cell?_alloc_mark w _ _ (0, 0) 1).trans rfl
  · exact (World.cell?_alloc_mark w _ _ (0, 0) 2).trans rfl
theorem Box3.other {G : Nat} {p q r : Value} {w : World} (h : Box3 G p q r w) (a : Addr) (ha : a.block ≠ G) (u : Value) : Box3 G p q r (w.setCell a u) := by
  have e : ∀ i, (w.setCell a u).cell? ⟨G, i, none⟩ = w.cell? ⟨G, i, none⟩ := fun i => World.cell?_setCell_other w a ⟨G, i, none⟩ u (fun h => ha (congrArg Addr.block h))
  exact ⟨(e 0).trans h.1, (e 1).trans h.2.1, (e 2).trans h.2.2.1, by simpa using h.2.2.2⟩
def LwRel (w : World) (G : Nat) (p q r : Value) (ns : List (List UInt8)) (i : Value) (wr : World) : Prop :=
  ∃ j : Nat, j ≤ ns.length ∧ i = .int .i64 j ∧ OwnsS wr w.heap.size q (halfN ns j) ∧ Box3 G p q r wr ∧ Below w.heap.size w wr
theorem LwRel.mk {w wr : World} {G : Nat} {p q r : Value} {ns : List (List UInt8)} (j : Nat) (h1 : j ≤ ns.length) (h2 : OwnsS wr w.heap.size q (halfN ns j)) (h3 : Box3 G p q r wr) (h4 : Below w.heap.size w wr) : LwRel w G p q r ns (.int .i64 j) wr := ⟨j, h1, rfl, h2, h3, h4⟩

set_option maxHeartbeats 2000000 in
set_option maxRecDepth 100000 in
theorem dlow_any (k : Int) (d : ByteArray) (w : World) (hm : d.size ≤ maxLen) :
    Calls Try.prog 112 #[.int .i64 k, .string d] w fun e w' => e = .returned (.string ⟨(Dt.lowD k (bl d)).toArray⟩) ∧ Keeps w w' := by
  go_enter Try.func112, Try.ntmps112
  go_wp2_with fail
  refine (splitWhole_any k d _ hm).mono ?_
  rintro e w1 ⟨v, rfl, k1, hno, hyes⟩
  obtain ⟨x, hx, hE, hl, hok, hj⟩ := low_of k (bl d) hno hyes
  have HE := hide hE
  have HOK := hide hok
  clear hno hyes hE hok
  generalize (Dt.wholeL k (bl d)).isSome = b at *
  obtain ⟨u, hv, hown⟩ := hx
  subst hv
  obtain ⟨ua, uc, rfl⟩ := hown.read.len
  generalize hxa : (⟨x.a.toArray⟩ : ByteArray) = A at *
  generalize hxb : (⟨x.b.toArray⟩ : ByteArray) = C at *
  have HA : Hid (bl A = x.a) := by unfold Hid; rw [← hxa]; exact bl_mk _
  have HC : Hid (bl C = x.b) := by unfold Hid; rw [← hxb]; exact bl_mk _
  clear hxa hxb
  go_wp2_with fail
  have hB0 := Box3.made w1 (.string A) (.slice ua x.ns.length uc) (.string C) 169
  have hown1 := hown.alloc (.cells #[.string A, .slice ua x.ns.length uc, .string C] 169)
  have k2 := k1.alloc (.cells #[.string A, .slice ua x.ns.length uc, .string C] 169)
  have hgG : ∀ g, Value.ownBlock (.slice ua x.ns.length uc) = some g → g < w1.heap.size := fun g hg => (World.ownsRow.lt hown g hg).2
  generalize w1.alloc (.cells #[.string A, .slice ua x.ns.length uc, .string C] 169) = W at *
  have HG := hide hgG
  clear hown hgG k1
  generalize w1.heap.size = G at *
  go_loopw [18] (fun i wr => LwRel w G (.string A) (.slice ua x.ns.length uc) (.string C) x.ns i wr) (fun i _ => x.ns.length - (intOf i).toNat)
  case atStart => exact LwRel.mk 0 (by omega) hown1 hB0 k2
  case round =>
    clear hown1 hB0 k2
    obtain ⟨j, hjn, rfl, hown, hbox, hbel⟩ := hrel
    by_cases hlt : j < x.ns.length
    · obtain ⟨g, cap, hv⟩ := hown.shape (by rw [halfN_len]; omega)
      rw [halfN_len] at hv
      simp only [Value.slice.injEq, true_and] at hv
      obtain ⟨rfl, rfl⟩ := hv
      have hgl : g < G := HG.out g rfl
      obtain ⟨X, hX⟩ : ∃ X : ByteArray, bl X = x.ns[j] := ⟨⟨x.ns[j].toArray⟩, bl_mk _⟩
      have hXo : Nm.okL (bl X) = true := by rw [hX]; exact HOK.out _ (List.getElem_mem hlt)
      have hXs : X.size ≤ maxLen := by
        have := (Dt.ok_len hXo).2
        rw [bl_length] at this
        unfold maxLen; omega
      have HL : Hid (lowS X = ⟨(Nm.lowL (bl X)).toArray⟩) := if_pos hXo
      obtain ⟨hc, hf, hg⟩ := hown.at (halfN_len x.ns j) j hlt _ (halfN_get x.ns j hlt)
      rw [← hX, sv_bl] at hc
      have HS : Hid ((halfN x.ns j).set j (Nm.lowL (bl X)) = halfN x.ns (j + 1)) := by unfold Hid; rw [hX]; exact halfN_set x.ns j hlt
      have i1 : (j : Int) < (x.ns.length : Int) := by omega
      obtain ⟨b0, b1, b2, b3⟩ := hbox
      clear hX hXo
      go_wp2_with fail
      have i0 : (0 : Int) ≤ (j : Int) := by omega
      have T1 : Box3 G (.string A) (.slice (some ⟨g, 0, none⟩) x.ns.length uc) (.string C) wr.drew := ⟨b0, b1, b2, b3⟩
      have hg2 := World.block_lt_of_cell? wr _ hc
      have HK : Hid (∀ w3, Keeps wr.drew w3 → w3.cell? ⟨g, j, none⟩ = some (.string X) ∧ w3.frozen? ⟨g, j, none⟩ = false) := fun w3 k3 => ⟨(Below.cell k3 (p := ⟨g, j, none⟩) hg2).trans hc, (Below.frozen k3 (p := ⟨g, j, none⟩) hg2).trans hf⟩
      go_region_held3 (fun w' => w'.cell? ⟨G, 0, none⟩ = some (.string A) ∧ w'.cell? ⟨G, 1, none⟩ = some (.slice (some ⟨g, 0, none⟩) x.ns.length uc) ∧ w'.cell? ⟨G, 2, none⟩ = some (.string C) ∧ G < w'.heap.size) ((first | exact T1 | exact Box3.keeps T1 (by assumption) | exact Box3.other (Box3.keeps T1 (by assumption)) _ (Nat.ne_of_lt hgl) _)) ((go_at_call 109; refine (low_any _ _ hXs).mono ?_; rintro e w3 ⟨rfl, k3⟩; obtain ⟨hc3, hf3⟩ := HK.out w3 k3))
      have hown2 := ((OwnsS.drew hown).below k3).set (halfN_len x.ns j) j (Nm.lowL (bl X))
      rw [HS.out] at hown2
      have hsv : sv (Nm.lowL (bl X)) = .string (lowS X) := by rw [HL.out]; rfl
      rw [hsv] at hown2
      have hbox2 := Box3.other (Box3.keeps T1 k3) ⟨g, j, none⟩ (Nat.ne_of_lt hgl) (.string (lowS X))
      have hbel2 : Keeps w w3 := Keeps.trans (Keeps.drew hbel) k3
      have HO2 := hide hown2
      clear hown2 hown hsv HK hc hf
      go_wp2
      go_roundw
      case rel => exact LwRel.mk (j + 1) (by omega) HO2.out hbox2 (hbel2.setCell hg _)
      case measure => simp [intOf]; omega
    · rw [halfN_all x.ns j (by omega)] at hown
      have hrd := hown.read
      have hlow : x.low.join.length ≤ 65535 := by rw [Dt.low_length]; exact hj
      have hln : x.low.ns.length ≤ 1000000 := by simp only [Dt.Pt.low, List.length_map]; omega
      have i1 : ¬ (j : Int) < (x.ns.length : Int) := by omega
      obtain ⟨b0, b1, b2, b3⟩ := hbox
      clear hown
      go_wp2_with fail
      refine (djoin_any _ x.low _ (PtAt.mk (x := x.low) A C HA.out HC.out hrd) hln (by omega)).mono ?_
      rintro e w4 ⟨rfl, k4⟩
      go_wp2
      go_ret
      exact ⟨ret_str (by rw [HE.out]; rfl), Keeps.trans hbel k4⟩
end Go.Proofs.Ytdlaepfnogmebaa

namespace Go.Proofs.Ytdlaepfnogmebaa
open Go.RowKit

def shR (s : Dt.Sh) : Value := .agg #[.int .i64 s.a, .int .i64 s.n, .int .i64 s.b]
def shOf (k : Int) : Dt.Sh := (Dt.shp k).getD ⟨0, 0, 0⟩

set_option maxHeartbeats 2000000 in
theorem refshape_any (k : Int) (w : World) :
    Calls Try.prog 123 #[.int .i64 k] w fun e w' => e = .returned (shR (shOf k)) ∧ Keeps w w' := by
  by_cases hm : k ∈ [1, 2, 5, 6, 12, 15, 28, 33]
  · simp only [List.mem_cons, List.not_mem_nil, or_false] at hm
    rcases hm with rfl | rfl | rfl | rfl | rfl | rfl | rfl | rfl
    all_goals
      go_enter Try.func123, Try.ntmps123
      go_wp2
    · exact bodyPost_ret (v := shR (shOf 1)) (by simp [results, Try.results123, go_sem, shR, shOf, Dt.shp]) rfl ⟨rfl, (Keeps.refl _).alloc _⟩
    · exact bodyPost_ret (v := shR (shOf 2)) (by simp [results, Try.results123, go_sem, shR, shOf, Dt.shp]) rfl ⟨rfl, (Keeps.refl _).alloc _⟩
    · exact bodyPost_ret (v := shR (shOf 5)) (by simp [results, Try.results123, go_sem, shR, shOf, Dt.shp]) rfl ⟨rfl, (Keeps.refl _).alloc _⟩
    · exact bodyPost_ret (v := shR (shOf 6)) (by simp [results, Try.results123, go_sem, shR, shOf, Dt.shp]) rfl ⟨rfl, (Keeps.refl _).alloc _⟩
    · exact bodyPost_ret (v := shR (shOf 12)) (by simp [results, Try.results123, go_sem, shR, shOf, Dt.shp]) rfl ⟨rfl, (Keeps.refl _).alloc _⟩
    · exact bodyPost_ret (v := shR (shOf 15)) (by simp [results, Try.results123, go_sem, shR, shOf, Dt.shp]) rfl ⟨rfl, (Keeps.refl _).alloc _⟩
    · exact bodyPost_ret (v := shR (shOf 28)) (by simp [results, Try.results123, go_sem, shR, shOf, Dt.shp]) rfl ⟨rfl, (Keeps.refl _).alloc _⟩
    · exact bodyPost_ret (v := shR (shOf 33)) (by simp [results, Try.results123, go_sem, shR, shOf, Dt.shp]) rfl ⟨rfl, (Keeps.refl _).alloc _⟩
  · simp only [List.mem_cons, List.not_mem_nil, or_false, not_or] at hm
    obtain ⟨h1, h2, h3, h4, h5, h6, h8, h9⟩ := hm
    have HS : Hid (shOf k = ⟨0, 0, 0⟩) := by simp [Hid, shOf, Dt.shp, h1, h2, h3, h4, h5, h6, h8, h9]
    replace h1 : (k == 1) = false := beq_eq_false_iff_ne.2 h1
    replace h2 : (k == 2) = false := beq_eq_false_iff_ne.2 h2
    replace h3 : (k == 5) = false := beq_eq_false_iff_ne.2 h3
    replace h4 : (k == 6) = false := beq_eq_false_iff_ne.2 h4
    replace h5 : (k == 12) = false := beq_eq_false_iff_ne.2 h5
    replace h6 : (k == 15) = false := beq_eq_false_iff_ne.2 h6
    replace h8 : (k == 28) = false := beq_eq_false_iff_ne.2 h8
    replace h9 : (k == 33) = false := beq_eq_false_iff_ne.2 h9
    go_enter Try.func123, Try.ntmps123
    go_wp2
    exact bodyPost_ret (v := shR ⟨0, 0, 0⟩) (by simp [results, Try.results123, go_sem, shR]) rfl ⟨by rw [HS.out], (Keeps.refl _).alloc _⟩

set_option maxHeartbeats 800000 in
theorem reftexts_any (n : ByteArray) (w : World) (hn : n.size ≤ 1000000) :
    Calls Try.prog 137 #[.string n] w fun e w' => e = .returned (.bool (Dt.textsB (bl n))) ∧ w' = w := by
  go_enter Try.func137, Try.ntmps137
  go_wp2
  go_loop [3] (fun i => ∃ p : Nat, p ≤ n.size + 256 ∧ i = .int .i64 p ∧ Dt.txm (bl n) 0 = Dt.txm (bl n) p) (fun i => n.size + 256 - (intOf i).toNat)
  case atStart => exact ⟨0, by omega, rfl, rfl⟩
  case round =>
    obtain ⟨p, hp, rfl, htx⟩ := hrel
    have HT := hide htx
    clear htx
    by_cases hlt : p < n.size
    · have hc := UInt8.toNat_lt n[p]
      have HS := hide (Dt.txm_step (bl_at? n p hlt))
      go_wp2
      go_round
      case rel => exact ⟨p + (1 + n[p].toNat), by omega, by refine congrArg _ ?_; omega, by rw [HT.out, HS.out]⟩
      case measure => simp [intOf]; omega
    · have HE := hide (Dt.txm_end (l := bl n) (p := p) (by rw [bl_length]; omega))
      have HF := hide (textsB_end n p (by rw [HT.out, HE.out]))
      by_cases h0 : (p : Int) = (n.size : Int)
      · have h1 : ((p : Int) == (n.size : Int)) = true := beq_iff_eq.2 h0
        clear h0
        go_wp2
        go_ret
        exact ⟨ret_bool (by rw [HF.out, h1, Bool.and_true]; exact decide_eq_decide.2 (by omega)), rfl⟩
      · have h1 : ((p : Int) == (n.size : Int)) = false := beq_eq_false_iff_ne.2 h0
        clear h0
        go_wp2
        go_ret
        exact ⟨ret_bool (by rw [HF.out, h1, Bool.and_false]), rfl⟩
end Go.Proofs.Ytdlaepfnogmebaa

namespace Go.Proofs.Ytdlaepfnogmebaa
open Go.RowKit

theorem arr_zero (w : World) : (Op.equalIn 10000 172 (.agg #[.int .i64 0, .int .i64 0, .int .i64 0]) (.agg #[.int .i64 0, .int .i64 0, .int .i64 0])).run Try.prog w = .ok true w := by kernel_rfl
theorem arr_shape {k : Int} {s : Dt.Sh} (hs : Dt.shp k = some s) (w : World) : (Op.equalIn 10000 172 (.agg #[.int .i64 s.a, .int .i64 s.n, .int .i64 s.b]) (.agg #[.int .i64 0, .int .i64 0, .int .i64 0])).run Try.prog w = .ok false w := by
  unfold Dt.shp at hs
  repeat' split at hs
  all_goals first | (cases hs; done) | (cases hs; kernel_rfl)

set_option maxHeartbeats 2000000 in
set_option maxRecDepth 100000 in
theorem refexp_plain (m : ByteArray) (p n : Nat) (k : Int) (w : World) (hm : m.size ≤ maxLen) (h : p + n ≤ m.size) (hn : n ≤ 65535) (hs : Dt.shp k = none) (hk : ¬ k = 16) :
    Calls Try.prog 128 #[.string m, .int .i64 p, .int .i64 n, .int .i64 k] w fun e w' => e = .returned (.tuple #[.string (erS (Dt.expL (bl m) p n k)), .int .i64 (Dt.expL (bl m) p n k).e]) ∧ Keeps w w' := by
  have hm' := hm
  unfold maxLen at hm'
  have ho : Oct.takeOk m p n = true := by rw [takeOk_nat]; simpa using h
  have hsp : Dt.splitL (bl m) p n k = some ⟨Dt.part (bl m) p n, [], []⟩ := by
    rw [Dt.splitL, if_neg (by omega), hs]
    exact if_neg (fun h => hk h.1)
  have HE := hide (exp_yes h hsp)
  have HA := hide (takeS_nat m p n h)
  have hsz := Oct.takeS_size m p n ho
  have HO : Hid (shOf k = ⟨0, 0, 0⟩) := by simp [Hid, shOf, hs]
  have hk2 : (k == 16) = false := beq_eq_false_iff_ne.2 hk
  clear hsp hs hk
  generalize Dt.expL (bl m) p n k = E at *
  go_enter Try.func128, Try.ntmps128
  go_wp2_with fail
  refine (reftake_any _ _ _ _ hm (by omega)).mono ?_
  rintro e w1 ⟨rfl, hw1⟩
  subst hw1
  rw [ho]
  generalize Oct.takeS m p n = A at *
  go_wp2_with fail
  refine (refshape_any _ _).mono ?_
  rintro e w2 ⟨rfl, k2⟩
  rw [HO.out]
  unfold shR
  have haz := arr_zero
  have hsz2 : ¬ 65535 < (A.size : Int) := by omega
  have HD : Hid (erS E = A) := by
    unfold Hid
    rw [HE.out]
    apply bl_inj
    rw [HA.out, erS, bl_mk]
    simp [Dt.Pt.join]
  clear hsz
  go_wp2
  go_ret2
  exact ⟨ret_str_int HD.out.symm (by rw [HE.out]; rfl), k2.alloc _⟩

set_option maxHeartbeats 2000000 in
set_option maxRecDepth 100000 in
theorem refexp_texts (m : ByteArray) (p n : Nat) (w : World) (hm : m.size ≤ maxLen) (h : p + n ≤ m.size) (hn : n ≤ 65535) :
    Calls Try.prog 128 #[.string m, .int .i64 p, .int .i64 n, .int .i64 16] w fun e w' => e = .returned (.tuple #[.string (erS (Dt.expL (bl m) p n 16)), .int .i64 (Dt.expL (bl m) p n 16).e]) ∧ Keeps w w' := by
  have hm' := hm
  unfold maxLen at hm'
  have ho : Oct.takeOk m p n = true := by rw [takeOk_nat]; simpa using h
  have hs : Dt.shp 16 = none := by decide
  have hA := takeS_nat m p n h
  have hsz := Oct.takeS_size m p n ho
  have HO : Hid (shOf 16 = ⟨0, 0, 0⟩) := by unfold Hid; decide
  have haz := arr_zero
  cases hb : Dt.textsB (Dt.part (bl m) p n)
  · have hsp : Dt.splitL (bl m) p n 16 = none := by
      rw [Dt.splitL, if_neg (by omega), hs]
      exact if_pos ⟨rfl, hb⟩
    have HE := hide (exp_no h hsp)
    have HB : Hid (Dt.textsB (bl (Oct.takeS m p n)) = false) := by unfold Hid; rw [hA]; exact hb
    clear hsp hs hb hA
    generalize Dt.expL (bl m) p n 16 = E at *
    go_enter Try.func128, Try.ntmps128
    go_wp2_with fail
    refine (reftake_any _ _ _ _ hm (by omega)).mono ?_
    rintro e w1 ⟨rfl, hw1⟩
    subst hw1
    rw [ho]
    generalize Oct.takeS m p n = A at *
    go_wp2_with fail
    refine (refshape_any _ _).mono ?_
    rintro e w2 ⟨rfl, k2⟩
    rw [HO.out]
    unfold shR
    go_wp2_with fail
    refine (reftexts_any _ _ (by omega)).mono ?_
    rintro e w3 ⟨rfl, hw3⟩
    subst hw3
    rw [HB.out]
    go_wp2
    go_ret2
    exact ⟨by rw [HE.out]; rfl, k2.alloc _⟩
  · have hsp : Dt.splitL (bl m) p n 16 = some ⟨Dt.part (bl m) p n, [], []⟩ := by
      rw [Dt.splitL, if_neg (by omega), hs]
      exact if_neg (fun h => by rw [hb] at h; simp at h)
    have HE := hide (exp_yes h hsp)
    have HB : Hid (Dt.textsB (bl (Oct.takeS m p n)) = true) := by unfold Hid; rw [hA]; exact hb
    have HA := hide hA
    clear hsp hs hb hA
    generalize Dt.expL (bl m) p n 16 = E at *
    go_enter Try.func128, Try.ntmps128
    go_wp2_with fail
    refine (reftake_any _ _ _ _ hm (by omega)).mono ?_
    rintro e w1 ⟨rfl, hw1⟩
    subst hw1
    rw [ho]
    generalize Oct.takeS m p n = A at *
    have hsz2 : ¬ 65535 < (A.size : Int) := by omega
    have HD : Hid (erS E = A) := by
      unfold Hid
      rw [HE.out]
      apply bl_inj
      rw [HA.out, erS, bl_mk]
      simp [Dt.Pt.join]
    go_wp2_with fail
    refine (refshape_any _ _).mono ?_
    rintro e w2 ⟨rfl, k2⟩
    rw [HO.out]
    unfold shR
    go_wp2_with fail
    refine (reftexts_any _ _ (by omega)).mono ?_
    rintro e w3 ⟨rfl, hw3⟩
    subst hw3
    rw [HB.out]
    clear hsz
    go_wp2
    go_ret2
    exact ⟨ret_str_int HD.out.symm (by rw [HE.out]; rfl), k2.alloc _⟩
end Go.Proofs.Ytdlaepfnogmebaa

namespace Go.Proofs.Ytdlaepfnogmebaa
open Go.RowKit

def RxRel (m A : ByteArray) (n : Nat) (z : Option (List (List UInt8) × Nat)) (o i k : Value) : Prop :=
  ∃ (j q : Nat) (ds : List (List UInt8)) (O : ByteArray), j ≤ n ∧ k = .int .i64 j ∧ i = .int .i64 q ∧ q ≤ m.size ∧ o = .string O ∧ bl O = bl A ++ ds.flatten ∧ O.size ≤ A.size + 255 * j ∧ z = (Dt.rds (bl m) (n - j) q).map (fun x => (ds ++ x.1, x.2))
theorem RxRel.mk {m A : ByteArray} {n : Nat} {z : Option (List (List UInt8) × Nat)} (j q : Nat) (ds : List (List UInt8)) (O : ByteArray) (h1 : j ≤ n) (h2 : q ≤ m.size) (h3 : bl O = bl A ++ ds.flatten) (h4 : O.size ≤ A.size + 255 * j) (h5 : z = (Dt.rds (bl m) (n - j) q).map (fun x => (ds ++ x.1, x.2))) :
    RxRel m A n z (.string O) (.int .i64 q) (.int .i64 j) := ⟨j, q, ds, O, h1, rfl, rfl, h2, rfl, h3, h4, h5⟩
theorem split_of {l : List UInt8} {p n : Nat} {k : Int} {s : Dt.Sh} (hn : n ≤ 65535) (hs : Dt.shp k = some s) (hp : p + s.a ≤ l.length) : Dt.splitL l p n k = tkOf l p (p + n) s (Dt.rds l s.n (p + s.a)) := by
  rw [Dt.splitL, if_neg (by omega), hs]
  exact takeL_of _ hp
theorem rrS_size {l : List UInt8} {p : Int} {r : Cm.RR} (h : Cm.readL l p = r) : (rrS r).size ≤ 255 ∧ (r.next : Int) ≤ l.length := by
  have e : (rrS r).size = r.n.length := by rw [rrS, ← bl_length, bl_mk]
  rw [e]
  rcases Cm.read_names l p with h1 | h1 | ⟨n, k, h1, h2, h3, h4, h5⟩
  · rw [← h, h1]; simp [Cm.bad]
  · rw [← h, h1]; simp [Cm.bad]
  · rw [← h, h1]; exact ⟨(Dt.ok_len h2).2, by simp; omega⟩

set_option maxHeartbeats 4000000 in
set_option maxRecDepth 100000 in
theorem refexp_shape (m : ByteArray) (p n : Nat) (k : Int) (s : Dt.Sh) (z : Option (List (List UInt8) × Nat)) (w : World) (hm2 : m.size ≤ 1000000) (h : p + n ≤ m.size) (hn : n ≤ 65535) (hs : Dt.shp k = some s) (ha : s.a ≤ n) (hz : Hid (z = Dt.rds (bl m) s.n (p + s.a))) :
    Calls Try.prog 128 #[.string m, .int .i64 p, .int .i64 n, .int .i64 k] w fun e w' => e = .returned (.tuple #[.string (erS (Dt.expL (bl m) p n k)), .int .i64 (Dt.expL (bl m) p n k).e]) ∧ Keeps w w' := by
  have hm : m.size ≤ maxLen := by unfold maxLen; omega
  have ho : Oct.takeOk m p n = true := by rw [takeOk_nat]; simpa using h
  have hsm := Dt.shp_small hs
  have hs1 := hsm.1
  have hs2 := hsm.2.1
  have hs3 := hsm.2.2
  have hT := split_of (l := bl m) (p := p) hn hs (by rw [bl_length]; omega)
  rw [← hz.out] at hT
  have hx := fun x => Dt.split_len (l := bl m) (p := p) (n := n) (k := k) (x := x) (by rw [bl_length]; exact h)
  have hE1 := fun hs => exp_no (k := k) h hs
  have hE2 := fun x hs => exp_yes (k := k) (x := x) h hs
  generalize Dt.splitL (bl m) p n k = R at *
  generalize Dt.expL (bl m) p n k = E at *
  have HX := hide hx
  have HT := hide hT
  have HE1 := hide hE1
  have HE2 := hide hE2
  have HO : Hid (shOf k = s) := by simp [Hid, shOf, hs]
  have hA := takeS_nat m p n h
  have hsz := Oct.takeS_size m p n ho
  have has := fun w => arr_shape hs w
  clear hx hT hE1 hE2 hsm hs
  go_enter Try.func128, Try.ntmps128
  go_wp2_with fail
  refine (reftake_any _ _ _ _ hm (by omega)).mono ?_
  rintro e w1 ⟨rfl, hw1⟩
  subst hw1
  rw [ho]
  generalize Oct.takeS m p n = D at *
  have hsz' : D.size = n := by omega
  have hD : bl (D.extract 0 s.a) = Dt.part (bl m) p s.a := by
    rw [bl_extract, hA, Dt.part, Dt.part, List.drop_zero, List.take_take]
    congr 1
    omega
  have hDs : (D.extract 0 s.a).size ≤ 16 := by rw [ByteArray.size_extract]; omega
  have HD := hide hD
  have ha2 : decide (n < s.a) = false := decide_eq_false (by omega)
  have ha3 : (s.a : Int) ≤ (D.size : Int) := by omega
  clear hA hsz hD hsz'
  go_wp2_with fail
  refine (refshape_any _ _).mono ?_
  rintro e w2 ⟨rfl, k2⟩
  rw [HO.out]
  unfold shR
  go_wp2
  generalize D.extract 0 s.a = A at *
  go_loop [13, 14, 15] (fun o i k => RxRel m A s.n z o i k) (fun _ _ k => s.n - (intOf k).toNat)
  case atStart =>
    have e1 : ((p : Int) + (s.a : Int)) = ((p + s.a : Nat) : Int) := by omega
    rw [e1]
    exact RxRel.mk 0 _ [] A (by omega) (by omega) (by simp) (by omega) (by rw [hz.out]; simp)
  case round =>
    obtain ⟨j, q, ds, O, hj, rfl, rfl, hq, rfl, hO, hOs, hz2⟩ := hrel
    have HZ := hide hz2
    have HO2 := hide hO
    clear hz2 hz hO
    by_cases hlt : j < s.n
    · have hjn : (j : Int) < (s.n : Int) := by omega
      generalize hrr : Cm.readL (bl m) q = r at *
      obtain ⟨hr1, hr2⟩ := rrS_size hrr
      rw [bl_length] at hr2
      have HRR := hide hrr
      clear hrr
      by_cases he0 : r.e = 0
      · have HS : Hid (z = (Dt.rds (bl m) (s.n - (j + 1)) r.next).map (fun x => ((ds ++ [r.n]) ++ x.1, x.2))) := by
          unfold Hid
          rw [← HRR.out]
          exact rds_step_yes HZ.out hlt (by rw [HRR.out]; exact he0)
        have HE : Hid ((r.e : Int) = 0) := by unfold Hid; omega
        have hb : O.size + (rrS r).size ≤ 9223372036854775807 := by omega
        have hadd : ∀ w, (Op.stringOp .add O (rrS r)).run Try.prog w = .ok (.string (O ++ rrS r)) w := fun w => run_string_add_sum w _ _ hb
        clear he0
        go_wp2_with fail
        refine (refread_any _ _ _ hm (by omega)).mono ?_
        rintro e w4 ⟨rfl, hw4⟩
        subst hw4
        rw [HRR.out, HE.out]
        go_wp2
        go_round
        case rel =>
          refine RxRel.mk (j + 1) r.next (ds ++ [r.n]) (O ++ rrS r) (by omega) (by omega) ?_ (by rw [ByteArray.size_append]; omega) HS.out
          have e1 : bl (rrS r) = r.n := bl_mk _
          rw [bl_append, HO2.out, e1]
          simp
        case measure => simp [intOf]; omega
      · have HE : ((r.e : Int) != 0) = true := by rw [bne_iff_ne]; omega
        have HF : Hid (E = ⟨[], 4⟩) := by
          refine HE1.out ?_
          rw [HT.out, rds_step_no HZ.out hlt (by rw [HRR.out]; exact he0)]
          rfl
        clear he0
        go_wp2_with fail
        refine (refread_any _ _ _ hm (by omega)).mono ?_
        rintro e w4 ⟨rfl, hw4⟩
        subst hw4
        rw [HRR.out]
        go_wp2
        go_ret2
        exact ⟨by rw [HF.out]; rfl, k2.alloc _⟩
    · have hjn : s.n - j = 0 := by omega
      have HZ2 : Hid (R = tkOf (bl m) p (p + n) s (some (ds, q))) := by
        unfold Hid
        rw [HT.out, HZ.out, hjn, Dt.rds]
        simp
      have hjl : ¬ (j : Int) < (s.n : Int) := by omega
      clear HZ HT hjn
      by_cases hqe : q + s.b = p + n
      · have hr := tkOf_yes (bl m) p (p + n) s ds q hqe
        rw [← HZ2.out] at hr
        have HF := hide (HE2.out _ hr)
        have hlen := (HX.out _ hr).1
        have hqe2 : ((q : Int) + (s.b : Int) != (p : Int) + (n : Int)) = false := by rw [bne_eq_false_iff_eq]; omega
        have hq0 : (0 : Int) ≤ (q : Int) := by omega
        have hq1 : (q : Int) ≤ (p : Int) + (n : Int) := by omega
        have hq2 : (p : Int) + (n : Int) ≤ (m.size : Int) := by omega
        have HM : Hid (bl (m.extract q (p + n)) = Dt.part (bl m) q s.b) := by
          unfold Hid
          rw [bl_extract, Dt.part]
          congr 1
          omega
        have HJ : Hid (erS E = O ++ m.extract q (p + n)) := by
          unfold Hid
          apply bl_inj
          rw [bl_append, HM.out, HO2.out, HF.out, erS, bl_mk, HD.out]
          simp [Dt.Pt.join]
        have hsl : (O ++ m.extract q (p + n)).size ≤ 65535 := by
          rw [← HJ.out, HF.out, ← bl_length, erS, bl_mk]
          exact hlen
        have hext : (m.extract q (p + n)).size ≤ 20 := by rw [ByteArray.size_extract]; omega
        have hadd : ∀ w, (Op.stringOp .add O (m.extract q (p + n))).run Try.prog w = .ok (.string (O ++ m.extract q (p + n))) w := fun w => run_string_add_sum w _ _ (by omega)
        have hsl2 : ¬ 65535 < (O.size : Int) + ((p + n - q : Nat) : Int) := by
          rw [ByteArray.size_append, ByteArray.size_extract] at hsl; omega
        have hsl3 : ¬ 9223372036854775807 < O.size + (p + n - q) := by omega
        have hx2 : ((p : Int) + (n : Int)).toNat = p + n := by omega
        clear hqe hr hlen hsl
        go_wp2
        go_ret2
        exact ⟨ret_str_int HJ.out.symm (by rw [HF.out]; rfl), k2.alloc _⟩
      · have hr := tkOf_no (bl m) p (p + n) s ds q hqe
        rw [← HZ2.out] at hr
        have HF := hide (HE1.out hr)
        have hqe2 : ¬ ((q : Int) + (s.b : Int) = (p : Int) + (n : Int)) := by omega
        clear hqe hr
        go_wp2
        go_ret2
        exact ⟨by rw [HF.out]; rfl, k2.alloc _⟩
end Go.Proofs.Ytdlaepfnogmebaa

namespace Go.Proofs.Ytdlaepfnogmebaa
open Go.RowKit

theorem take_few {l : List UInt8} {p n : Nat} {s : Dt.Sh} (h : n < s.a) : Dt.takeL l p (p + n) s = none := by
  unfold Dt.takeL
  split
  · rename_i hp
    split
    · rfl
    · rename_i ns q hr
      have := (Dt.rds_good l _ _ _ _ hp hr).2.2.1
      rw [if_neg (by omega)]
  · rfl
theorem split_few {l : List UInt8} {p n : Nat} {k : Int} {s : Dt.Sh} (hs : Dt.shp k = some s) (h : n < s.a) : Dt.splitL l p n k = none := by
  unfold Dt.splitL
  split
  · rfl
  · rw [hs]; exact take_few h

set_option maxHeartbeats 2000000 in
set_option maxRecDepth 100000 in
theorem refexp_few (m : ByteArray) (p n : Nat) (k : Int) (s : Dt.Sh) (w : World) (hm : m.size ≤ maxLen) (h : p + n ≤ m.size) (hs : Dt.shp k = some s) (ha : n < s.a) :
    Calls Try.prog 128 #[.string m, .int .i64 p, .int .i64 n, .int .i64 k] w fun e w' => e = .returned (.tuple #[.string (erS (Dt.expL (bl m) p n k)), .int .i64 (Dt.expL (bl m) p n k).e]) ∧ Keeps w w' := by
  have hm' := hm
  unfold maxLen at hm'
  have ho : Oct.takeOk m p n = true := by rw [takeOk_nat]; simpa using h
  have HE := hide (exp_no h (split_few (l := bl m) (p := p) hs ha))
  generalize Dt.expL (bl m) p n k = E at *
  have HO : Hid (shOf k = s) := by simp [Hid, shOf, hs]
  have has := fun w => arr_shape hs w
  clear hs
  go_enter Try.func128, Try.ntmps128
  go_wp2_with fail
  refine (reftake_any _ _ _ _ hm (by omega)).mono ?_
  rintro e w1 ⟨rfl, hw1⟩
  subst hw1
  rw [ho]
  go_wp2_with fail
  refine (refshape_any _ _).mono ?_
  rintro e w2 ⟨rfl, k2⟩
  rw [HO.out]
  unfold shR
  go_wp2
  go_ret2
  exact ⟨by rw [HE.out]; rfl, k2.alloc _⟩

set_option maxHeartbeats 2000000 in
theorem refexp_any (m : ByteArray) (p n k : Int) (w : World) (hm : m.size ≤ 1000000) (hn2 : Oct.takeOk m p n = true → n ≤ 65535) (hp : p ≤ 9223372036854775807) :
    Calls Try.prog 128 #[.string m, .int .i64 p, .int .i64 n, .int .i64 k] w fun e w' => e = .returned (.tuple #[.string (erS (Dt.expL (bl m) p n k)), .int .i64 (Dt.expL (bl m) p n k).e]) ∧ Keeps w w' := by
  have hM : m.size ≤ maxLen := by unfold maxLen; omega
  cases ho : Oct.takeOk m p n
  · have HE := hide (exp_out (k := k) ho)
    generalize Dt.expL (bl m) p n k = E at *
    go_enter Try.func128, Try.ntmps128
    go_wp2_with fail
    refine (reftake_any _ _ _ _ hM hp).mono ?_
    rintro e w1 ⟨rfl, hw1⟩
    subst hw1
    rw [ho]
    go_wp2
    go_ret2
    exact ⟨by rw [HE.out]; rfl, Keeps.refl _⟩
  · have hn := hn2 ho
    have h2 := ho
    simp only [Oct.takeOk, decide_eq_true_eq] at h2
    obtain ⟨p', rfl⟩ := Int.eq_ofNat_of_zero_le h2.1
    obtain ⟨n', rfl⟩ := Int.eq_ofNat_of_zero_le h2.2.1
    have h : p' + n' ≤ m.size := by omega
    cases hs : Dt.shp k with
    | some s =>
      by_cases ha : n' < s.a
      · exact refexp_few m p' n' k s w hM h hs ha
      · exact refexp_shape m p' n' k s _ w hm h (by omega) hs (by omega) (hide rfl)
    | none =>
      by_cases hk : k = 16
      · subst hk
        exact refexp_texts m p' n' w hM h (by omega)
      · exact refexp_plain m p' n' k w hM h (by omega) hs hk

theorem check_long {k : Int} {d : List UInt8} (h : 65535 < d.length) : Dt.checkB k d = false := by
  have : Dt.splitL d 0 d.length k = none := by rw [Dt.splitL, if_pos h]
  rw [Dt.checkB, Dt.wholeL, this]; rfl
theorem check_exp {k : Int} (d : ByteArray) : Dt.checkB k (bl d) = (decide ((Dt.expL (bl d) 0 d.size k).e = 0) && decide (erS (Dt.expL (bl d) 0 d.size k) = d)) := by
  have e0 := @exp_no d 0 d.size k (by omega)
  have e1 := fun x => @exp_yes d 0 d.size k x (by omega)
  rw [Dt.checkB]
  rcases Option.eq_none_or_eq_some (Dt.splitL (bl d) 0 d.size k) with h | ⟨x, h⟩
  · have e := e0 h
    rw [Int.ofNat_zero] at e
    rw [e, whole_split h]; simp
  · have e := e1 x h
    rw [Int.ofNat_zero] at e
    rw [e]
    by_cases hj : joinP x = d
    · rw [whole_same h hj]
      have : erS ⟨x.join, 0⟩ = d := hj
      simp [this]
    · rw [whole_other h hj]
      have : ¬ erS ⟨x.join, 0⟩ = d := hj
      simp [this]

set_option maxHeartbeats 2000000 in
theorem refcheck5_any (k : Int) (d : ByteArray) (w : World) (hm : d.size ≤ maxLen) :
    Calls Try.prog 105 #[.int .i64 k, .string d] w fun e w' => e = .returned (.bool (Dt.checkB k (bl d))) ∧ Keeps w w' := by
  by_cases hl : (65535 : Int) < (d.size : Int)
  · rw [check_long (by rw [bl_length]; omega)]
    go_enter Try.func105, Try.ntmps105
    go_wp2
    go_ret
    exact ⟨rfl, Keeps.refl _⟩
  · rw [check_exp d]
    have hC := fun W => refexp_any d 0 d.size k W (by omega) (fun _ => by omega) (by omega)
    generalize Dt.expL (bl d) 0 d.size k = Y at *
    have HC := hide hC
    clear hC
    generalize hE : Y.e = E at *
    generalize hX : erS Y = X at *
    clear hE hX
    go_enter Try.func105, Try.ntmps105
    go_wp2_with fail
    refine (HC.out _).mono ?_
    rintro e w1 ⟨rfl, k1⟩
    clear HC
    by_cases h0 : E = 0
    · subst h0
      by_cases hj : X = d
      · subst hj
        go_wp2
        go_ret
        exact ⟨by simp, k1⟩
      · have hne : (X.toList == d.toList) = false := by
          rw [toList_bl, toList_bl, beq_eq_false_iff_ne]
          exact fun e => hj (bl_inj e)
        have HD : Hid ((decide (0 = 0) && decide (X = d)) = false) := by simp [Hid, hj]
        clear hj
        go_wp2
        go_ret
        exact ⟨ret_bool HD.out.symm, k1⟩
    · have h1 : ((E : Int) == 0) = false := by rw [beq_eq_false_iff_ne]; omega
      have HD : Hid ((decide (E = 0) && decide (X = d)) = false) := by simp [Hid, h0]
      clear h0
      go_wp2
      go_ret
      exact ⟨ret_bool HD.out.symm, k1⟩
end Go.Proofs.Ytdlaepfnogmebaa

namespace Go.Proofs.Ytdlaepfnogmebaa
open Go.RowKit

/-- The names of data that is whole are read from where its names begin. -/
theorem whole_rds {k : Int} {d : List UInt8} {x : Dt.Pt} (h : Dt.wholeL k d = some x) : ∃ q, Dt.rds d (shOf k).n (shOf k).a = some (x.ns, q) ∧ (shOf k).a ≤ d.length ∧ d = x.join ∧ x.a.length = (if (Dt.shp k).isSome then (shOf k).a else d.length) ∧ x.a.take (shOf k).a = d.take (shOf k).a := by
  obtain ⟨h1, ⟨s, hs, hf⟩ | ⟨hs, hn, rfl, ht⟩⟩ := Dt.wholeL_parts h
  · have e : shOf k = s := by simp [shOf, hs]
    rw [e]
    obtain ⟨g1, g2, g3, g4⟩ := hf
    have hd : d.drop s.a = x.ns.flatten ++ x.b := by rw [← h1, Dt.Pt.join, List.append_assoc, ← g1, List.drop_left]
    have := Dt.rds_whole d x.ns s.a x.b g3 hd
    rw [g2] at this
    refine ⟨_, this, ?_, h1.symm, by simp [hs, g1], ?_⟩
    · rw [← h1]; simp only [Dt.Pt.join, List.length_append]; omega
    · rw [← h1, Dt.Pt.join, List.append_assoc, ← g1, List.take_left, List.take_length]
  · have e : shOf k = ⟨0, 0, 0⟩ := by simp [shOf, hs]
    rw [e]
    exact ⟨0, rfl, by simp, h1.symm, by simp [hs], by simp⟩

theorem shOf_small (k : Int) : (shOf k).a ≤ 16 ∧ (shOf k).n ≤ 2 := by
  unfold shOf
  cases h : Dt.shp k with
  | none => simp
  | some s => have := Dt.shp_small h; exact ⟨this.1, this.2.1⟩

set_option maxHeartbeats 4000000 in
set_option maxRecDepth 100000 in
theorem refnames5_any (k : Int) (d : ByteArray) (w : World) (hm : d.size ≤ maxLen) :
    Calls Try.prog 94 #[.int .i64 k, .string d] w fun e w' => NamesEnd w (Dt.namesL k (bl d)) e w' := by
  have hm' := hm
  unfold maxLen at hm'
  have hC := fun W => refcheck5_any k d W hm
  rw [Dt.checkB] at hC
  have HC := hide hC
  clear hC
  rcases Option.eq_none_or_eq_some (Dt.wholeL k (bl d)) with hr | ⟨x, hr⟩
  · have HF := hide (namesL_none hr)
    rw [hr, Option.isSome_none] at HC
    clear hr
    generalize Dt.namesL k (bl d) = E at *
    go_enter Try.func94, Try.ntmps94
    go_wp2_with fail
    refine (HC.out _).mono ?_
    rintro e w1 ⟨rfl, k1⟩
    clear HC
    go_wp2
    go_ret
    exact NamesEnd.mk (by rw [HF.out]; exact OwnsS.nil _ _) k1
  · have HF := hide (namesL_some hr)
    rw [hr, Option.isSome_some] at HC
    obtain ⟨q0, hq0, hle, hd, hxa, hxt⟩ := whole_rds hr
    rw [bl_length] at hle
    have hss := shOf_small k
    have HS := hide (fun W => refshape_any k W)
    have hz : Hid (some (x.ns, q0) = Dt.rds (bl d) (shOf k).n (shOf k).a) := hq0.symm
    clear hr hq0 hd hxa hxt
    generalize Dt.namesL k (bl d) = E at *
    generalize shOf k = s at *
    have hs1 := hss.1
    have hs2 := hss.2
    clear hss
    go_enter Try.func94, Try.ntmps94
    go_wp2_with fail
    refine (HC.out _).mono ?_
    rintro e w1 ⟨rfl, k1⟩
    clear HC
    go_wp2_with fail
    refine (HS.out _).mono ?_
    rintro e w2 ⟨rfl, k2⟩
    clear HS
    unfold shR
    have k3 := (k1.trans k2).alloc (.cells #[.int .i64 s.a, .int .i64 s.n, .int .i64 s.b] 172)
    have hc1 : (w2.alloc (.cells #[.int .i64 s.a, .int .i64 s.n, .int .i64 s.b] 172)).cell? ⟨w2.heap.size, 1, none⟩ = some (.int .i64 s.n) := (World.cell?_alloc_mark w2 _ _ (0, 0) 1).trans rfl
    have hlt2 : w2.heap.size < (w2.alloc (.cells #[.int .i64 s.a, .int .i64 s.n, .int .i64 s.b] 172)).heap.size := by simp
    go_wp2_with fail
    generalize w2.alloc (.cells #[.int .i64 s.a, .int .i64 s.n, .int .i64 s.b] 172) = W at *
    go_loopw [5, 7, 8] (fun a b i wr => TkRel d s.n (some (x.ns, q0)) W a b i wr) (fun _ _ i _ => s.n - (intOf i).toNat)
    case atStart => exact TkRel.mk 0 _ [] (by omega) rfl hle (OwnsS.nil _ _) (by rw [hz.out]; simp) (Below.refl _ _)
    case round =>
      obtain ⟨j, q, ds, hj, hds, rfl, rfl, hq, hown, hz2, hbel⟩ := hrel
      have HZ := hide hz2
      clear hz2 hz
      have hsb := hbel.size
      have hcell : wr.cell? ⟨w2.heap.size, 1, none⟩ = some (.int .i64 s.n) := ((bcell hbel).1 _ _ hlt2).trans hc1
      by_cases hlt : j < s.n
      · have hjn : (j : Int) < (s.n : Int) := by omega
        generalize hrr : Cm.readL (bl d) q = r at *
        obtain ⟨hr1, hr2⟩ := rrS_size hrr
        rw [bl_length] at hr2
        have HRR := hide hrr
        clear hrr
        have he0 : r.e = 0 := by
          by_cases he : r.e = 0
          · exact he
          · have := rds_step_no HZ.out hlt (by rw [HRR.out]; exact he)
            cases this
        have HS : Hid (some (x.ns, q0) = (Dt.rds (bl d) (s.n - (j + 1)) r.next).map (fun x => ((ds ++ [r.n]) ++ x.1, x.2))) := by
          unfold Hid
          rw [← HRR.out]
          exact rds_step_yes HZ.out hlt (by rw [HRR.out]; exact he0)
        clear he0
        go_wp2_with fail
        refine (refread_any _ _ _ hm (by omega)).mono ?_
        rintro e w4 ⟨rfl, hw4⟩
        subst hw4
        rw [HRR.out]
        go_wp2_with (at_builtin; refine wpList_appS _ rfl _ _ rfl W.heap.size _ _ rfl (hown.alloc _) _ _ (bl (rrS r)) rfl ?c1 ?c2 ?c3 ?_)
        case c1 => first | exact cell_str _ _ _ | exact (sv_bl _).symm
        case c2 => omega
        case c3 => first | omega | (simp; omega)
        intro v' w5 hown' hb' _
        have hbel' := (hbel.alloc hsb _).trans hb'
        clear hb' hown hbel
        go_wp2
        go_roundw
        case rel =>
          rw [show bl (rrS r) = r.n from bl_mk _] at hown'
          exact TkRel.mk (j + 1) r.next _ (by omega) (by simp [hds]) (by omega) hown' HS.out hbel'
        case measure => simp [intOf]; omega
      · have hjn : s.n - j = 0 := by omega
        have hd2 : x.ns = ds := by
          have h := HZ.out
          rw [hjn, Dt.rds] at h
          simp at h
          exact h.1
        have hjl : ¬ (j : Int) < (s.n : Int) := by omega
        have HF2 : Hid (E = ds) := by unfold Hid; rw [HF.out, hd2]
        subst hds
        obtain ⟨ua, uc, rfl⟩ := hown.read.len
        clear HF hd2 HZ
        have hwW : w.heap.size ≤ W.heap.size := k3.size
        go_wp2
        go_ret
        exact NamesEnd.mk (by rw [HF2.out]; exact hown.le hwW) (k3.trans hbel)
end Go.Proofs.Ytdlaepfnogmebaa

namespace Go.Proofs.Ytdlaepfnogmebaa
open Go.RowKit

theorem low_split {k : Int} {d : List UInt8} {x : Dt.Pt} (h : Dt.wholeL k d = some x) : x.low.join = d.take (shOf k).a ++ (x.ns.map Nm.lowL).flatten ++ d.drop ((shOf k).a + x.ns.flatten.length) ∧ (shOf k).a + x.ns.flatten.length ≤ d.length := by
  obtain ⟨h1, ⟨s, hs, hf⟩ | ⟨hs, hn, rfl, ht⟩⟩ := Dt.wholeL_parts h
  · have e : shOf k = s := by simp [shOf, hs]
    rw [e]
    obtain ⟨g1, g2, g3, g4⟩ := hf
    have hd : d.drop s.a = x.ns.flatten ++ x.b := by rw [← h1, Dt.Pt.join, List.append_assoc, ← g1, List.drop_left]
    have ht : d.take s.a = x.a := by rw [← h1, Dt.Pt.join, List.append_assoc, ← g1, List.take_left]
    have hb : d.drop (s.a + x.ns.flatten.length) = x.b := by rw [← List.drop_drop, hd, List.drop_left]
    rw [ht, hb]
    refine ⟨rfl, ?_⟩
    rw [← h1]; simp only [Dt.Pt.join, List.length_append]; omega
  · have e : shOf k = ⟨0, 0, 0⟩ := by simp [shOf, hs]
    rw [e]
    simp [Dt.Pt.join, Dt.Pt.low]

def LlRel (b : List UInt8) (p : Nat) (ns : List (List UInt8)) (W : World) (o i k : Value) (wr : World) : Prop :=
  ∃ (j : Nat) (O : ByteArray), j ≤ ns.length ∧ k = .int .i64 j ∧ o = .string O ∧ bl O = b ++ ((ns.take j).map Nm.lowL).flatten ∧ i = .int .i64 (p + (ns.take j).flatten.length : Nat) ∧ Keeps W wr
theorem LlRel.mk {b : List UInt8} {p : Nat} {ns : List (List UInt8)} {W wr : World} (j q : Nat) (O : ByteArray) (h1 : j ≤ ns.length) (h2 : bl O = b ++ ((ns.take j).map Nm.lowL).flatten) (h3 : q = p + (ns.take j).flatten.length) (h4 : Keeps W wr) : LlRel b p ns W (.string O) (.int .i64 q) (.int .i64 j) wr := ⟨j, O, h1, rfl, rfl, h2, by rw [h3], h4⟩
theorem take_nextD {ns : List (List UInt8)} {j : Nat} (h : j < ns.length) : (ns.take (j + 1)).flatten = (ns.take j).flatten ++ ns[j] ∧ ((ns.take (j + 1)).map Nm.lowL).flatten = ((ns.take j).map Nm.lowL).flatten ++ Nm.lowL ns[j] := by
  rw [List.take_succ_eq_append_getElem h]
  refine ⟨by rw [List.flatten_append]; simp, by rw [List.map_append, List.flatten_append]; simp⟩
theorem flat_takeD {ns : List (List UInt8)} (h : ∀ n ∈ ns, Nm.okL n = true) (j : Nat) : (ns.take j).flatten.length ≤ 255 * j := by
  have := Dt.flatten_bound (ns.take j) (fun n hn => h n (List.mem_of_mem_take hn))
  rw [List.length_take] at this
  omega
theorem low_sizeD {O d : ByteArray} {a j : Nat} {ns : List (List UInt8)} (h : ∀ n ∈ ns, Nm.okL n = true) (hO : bl O = (bl d).take a ++ ((ns.take j).map Nm.lowL).flatten) : O.size ≤ a + 255 * j := by
  rw [← bl_length, hO, List.length_append, List.length_take, Dt.flatten_low]
  have := flat_takeD h j
  omega

set_option maxHeartbeats 4000000 in
set_option maxRecDepth 100000 in
theorem reflow5_any (k : Int) (d : ByteArray) (w : World) (hm : d.size ≤ maxLen) :
    Calls Try.prog 106 #[.int .i64 k, .string d] w fun e w' => e = .returned (.string ⟨(Dt.lowD k (bl d)).toArray⟩) ∧ Keeps w w' := by
  have hm' := hm
  unfold maxLen at hm'
  have hC := fun W => refcheck5_any k d W hm
  rw [Dt.checkB] at hC
  have HC := hide hC
  clear hC
  rcases Option.eq_none_or_eq_some (Dt.wholeL k (bl d)) with hr | ⟨x, hr⟩
  · have HF := hide (lowD_none hr)
    rw [hr, Option.isSome_none] at HC
    clear hr
    generalize Dt.lowD k (bl d) = E at *
    go_enter Try.func106, Try.ntmps106
    go_wp2_with fail
    refine (HC.out _).mono ?_
    rintro e w1 ⟨rfl, k1⟩
    clear HC
    go_wp2
    go_ret
    exact ⟨by rw [HF.out]; rfl, k1⟩
  · have hF := lowD_some hr
    have hN := fun W => refnames5_any k d W hm
    rw [namesL_some hr] at hN
    have HN := hide hN
    rw [hr, Option.isSome_some] at HC
    obtain ⟨hF2, hle⟩ := low_split hr
    rw [hF2] at hF
    have HF := hide hF
    have hsz := Dt.whole_names hr
    have hx1 := hsz.1
    have hx3 := hsz.2.2
    have HOK := hide hsz.2.1
    rw [bl_length] at hle hx3
    have hss := shOf_small k
    have HS := hide (fun W => refshape_any k W)
    clear hr hF2 hF hN hsz
    generalize Dt.lowD k (bl d) = E at *
    generalize shOf k = s at *
    have hs1 := hss.1
    clear hss
    go_enter Try.func106, Try.ntmps106
    go_wp2_with fail
    refine (HC.out _).mono ?_
    rintro e w1 ⟨rfl, k1⟩
    clear HC
    go_wp2_with fail
    refine (HN.out _).mono ?_
    rintro e w2 ⟨v, rfl, hown, k2⟩
    clear HN
    obtain ⟨ua, uc, rfl⟩ := hown.read.len
    go_wp2_with fail
    refine (HS.out _).mono ?_
    rintro e w3 ⟨rfl, k3⟩
    clear HS
    unfold shR
    have k4 := ((k1.trans k2).trans k3).alloc (.cells #[.int .i64 s.a, .int .i64 s.n, .int .i64 s.b] 172)
    have hrd := hown.read.keeps (k3.alloc (.cells #[.int .i64 s.a, .int .i64 s.n, .int .i64 s.b] 172))
    have hle2 : (s.a : Int) ≤ (d.size : Int) := by omega
    clear hown k1 k2 k3
    go_wp2_with fail
    generalize w3.alloc (.cells #[.int .i64 s.a, .int .i64 s.n, .int .i64 s.b] 172) = W at *
    have HA : Hid (bl (d.extract 0 s.a) = (bl d).take s.a) := by unfold Hid; rw [bl_extract]; simp
    generalize d.extract 0 s.a = A at *
    go_loopw [7, 8, 9] (fun o i k wr => LlRel ((bl d).take s.a) s.a x.ns W o i k wr) (fun _ _ k _ => x.ns.length - (intOf k).toNat)
    case atStart => exact LlRel.mk 0 _ A (by omega) (by rw [HA.out]; simp) (by simp) (Keeps.refl _)
    case round =>
      obtain ⟨j, O, hj, rfl, rfl, hO, rfl, hk⟩ := hrel
      have HO := hide hO
      clear hO
      have hrd2 := hrd.keeps hk
      by_cases hlt : j < x.ns.length
      · obtain ⟨b, off, cap, hv, hb, hc, hcap⟩ := hrd2.parts (by omega)
        simp only [Value.slice.injEq, true_and] at hv
        obtain ⟨rfl, rfl⟩ := hv
        have hcj := hc j hlt
        obtain ⟨X, hX⟩ : ∃ X : ByteArray, bl X = x.ns[j] := ⟨⟨x.ns[j].toArray⟩, bl_mk _⟩
        have hXo : Nm.okL (bl X) = true := by rw [hX]; exact HOK.out _ (List.getElem_mem hlt)
        have hX3 := (Dt.ok_len hXo).2
        rw [bl_length] at hX3
        have hXs : X.size ≤ maxLen := by unfold maxLen; omega
        have HL : Hid (bl (lowS X) = Nm.lowL (bl X)) := by unfold Hid; rw [lowS, if_pos hXo, bl_mk]
        have hLs : (lowS X).size ≤ 255 := by rw [← bl_length, HL.out, Nm.lowL_length, bl_length]; exact hX3
        obtain ⟨n1, n2⟩ := take_nextD hlt
        rw [← hX] at n1 n2 hcj
        rw [sv_bl] at hcj
        have n3 : s.a + (x.ns.take (j + 1)).flatten.length = s.a + (x.ns.take j).flatten.length + X.size := by rw [n1, List.length_append, bl_length]; omega
        have N2 := hide n2
        have N3 := hide n3
        have hOs : O.size ≤ s.a + 255 * j := low_sizeD HOK.out HO.out
        have hfl : (x.ns.take j).flatten.length ≤ 255 * j := flat_takeD HOK.out j
        clear hX n1 n2 n3 hc hXo
        generalize (x.ns.take j).flatten.length = q at *
        have i1 : (j : Int) < (x.ns.length : Int) := by omega
        have hadd : ∀ w, (Op.stringOp .add O (lowS X)).run Try.prog w = .ok (.string (O ++ lowS X)) w := fun w => run_string_add_sum w _ _ (by omega)
        go_wp2_with (go_at_call 103; refine (reflow_any _ _ hXs).mono ?_; rintro e w5 ⟨rfl, k5⟩; have hcj5 := (Below.cell k5 (p := ⟨b, off + j, none⟩) hb).trans hcj)
        go_roundw
        case rel =>
          have e1 : ((s.a : Int) + (q : Int)) + (X.size : Int) = ((s.a + q + X.size : Nat) : Int) := by omega
          rw [e1]
          refine LlRel.mk (j + 1) _ _ (by omega) ?_ N3.out.symm (hk.trans k5)
          rw [bl_append, HO.out, HL.out, N2.out, List.append_assoc]
        case measure => simp [intOf]; omega
      · have hjn : j = x.ns.length := by omega
        subst hjn
        rw [List.take_length] at HO
        have i1 : ¬ (x.ns.length : Int) < (x.ns.length : Int) := by omega
        have hOs : O.size ≤ s.a + 255 * x.ns.length := low_sizeD HOK.out (j := x.ns.length) (by rw [List.take_length]; exact HO.out)
        rw [List.take_length]
        have HX : Hid (bl (d.extract (s.a + x.ns.flatten.length) d.size) = (bl d).drop (s.a + x.ns.flatten.length)) := by
          unfold Hid
          rw [bl_extract]
          exact List.take_of_length_le (by rw [List.length_drop, bl_length]; omega)
        generalize x.ns.flatten.length = q at *
        go_wp2
        go_ret
        refine ⟨ret_str (bl_inj ?_), k4.trans hk⟩
        have e1 : bl ⟨E.toArray⟩ = E := bl_mk _
        rw [e1, bl_append, HX.out, HO.out, HF.out]
end Go.Proofs.Ytdlaepfnogmebaa
