/- Plain functions on bytes: what layer 5 tells. No condition. -/
import Derived.Test.YthoominldliphaaCompMath2
namespace Go.Proofs.Ythoominldliphaa.Dt
open Go.Proofs.Ythoominldliphaa.Nm (lowL okL)

/-- How many bytes ahead of names, how many names, how many bytes behind. -/
structure Sh where
  a : Nat
  n : Nat
  b : Nat
  deriving DecidableEq
/-- The shape of a type that has names, or a size. -/
def shp (k : Int) : Option Sh :=
  if k = 1 then some ⟨4, 0, 0⟩ else if k = 2 then some ⟨0, 1, 0⟩ else if k = 5 then some ⟨0, 1, 0⟩ else if k = 6 then some ⟨0, 2, 20⟩
  else if k = 12 then some ⟨0, 1, 0⟩ else if k = 15 then some ⟨2, 1, 0⟩ else if k = 28 then some ⟨16, 0, 0⟩ else if k = 33 then some ⟨6, 1, 0⟩ else none

/-- Where texts end that stand one behind the other from p on. By fuel. -/
def tx (l : List UInt8) : Nat → Nat → Nat
  | 0, p => p
  | f + 1, p => match l[p]? with
    | none => p
    | some c => tx l f (p + (1 + c.toNat))
def txm (l : List UInt8) (p : Nat) : Nat := tx l (l.length - p + 1) p
def textsB (l : List UInt8) : Bool := decide (0 < txm l 0) && decide (txm l 0 = l.length)
theorem tx_fuel (l : List UInt8) (f : Nat) : ∀ (g p : Nat), l.length - p < f → l.length - p < g → tx l f p = tx l g p := by
  induction f with
  | zero => intro g p h; omega
  | succ f ih =>
    intro g p h1 h2
    obtain ⟨g, rfl⟩ : ∃ g', g = g' + 1 := ⟨g - 1, by omega⟩
    simp only [tx]
    split
    · rfl
    · rename_i c hc
      have := (List.getElem?_eq_some_iff.1 hc).1
      exact ih g _ (by omega) (by omega)
theorem txm_end {l : List UInt8} {p : Nat} (h : l.length ≤ p) : txm l p = p := by
  simp only [txm, tx, List.getElem?_eq_none h]
theorem txm_step {l : List UInt8} {p : Nat} {c : UInt8} (h : l[p]? = some c) : txm l p = txm l (p + (1 + c.toNat)) := by
  have := (List.getElem?_eq_some_iff.1 h).1
  conv => lhs; simp only [txm, tx, h]
  exact tx_fuel l _ _ _ (by omega) (by omega)

/-- Names that stand one behind the other from p on, and the place behind them. -/
def rds (l : List UInt8) : Nat → Nat → Option (List (List UInt8) × Nat)
  | 0, p => some ([], p)
  | k + 1, p => if (Cm.readL l p).e = 0 then (rds l k (Cm.readL l p).next).map (fun x => ((Cm.readL l p).n :: x.1, x.2)) else none
def part (l : List UInt8) (p n : Nat) : List UInt8 := (l.drop p).take n
/-- Data taken apart. -/
structure Pt where
  a : List UInt8
  ns : List (List UInt8)
  b : List UInt8
  deriving DecidableEq
def Pt.join (p : Pt) : List UInt8 := p.a ++ p.ns.flatten ++ p.b
def takeL (l : List UInt8) (p e : Nat) (s : Sh) : Option Pt :=
  if p + s.a ≤ l.length then
    match rds l s.n (p + s.a) with
    | none => none
    | some (ns, q) => if q + s.b = e then some ⟨part l p s.a, ns, part l q s.b⟩ else none
  else none
def splitL (l : List UInt8) (p n : Nat) (k : Int) : Option Pt :=
  if 65535 < n then none
  else match shp k with
    | some s => takeL l p (p + n) s
    | none => if k = 16 ∧ textsB (part l p n) = false then none else some ⟨part l p n, [], []⟩
def wholeL (k : Int) (d : List UInt8) : Option Pt :=
  match splitL d 0 d.length k with
  | none => none
  | some p => if p.join = d then some p else none
def checkB (k : Int) (d : List UInt8) : Bool := (wholeL k d).isSome
def namesL (k : Int) (d : List UInt8) : List (List UInt8) := match wholeL k d with | none => [] | some p => p.ns
def lowD (k : Int) (d : List UInt8) : List UInt8 := match wholeL k d with | none => [] | some p => p.a ++ (p.ns.map lowL).flatten ++ p.b
/-- What Expand answers. -/
structure ER where
  d : List UInt8
  e : Nat
  deriving DecidableEq
def inside (l : List UInt8) (p n : Int) : Bool := decide (0 ≤ p ∧ 0 ≤ n ∧ n ≤ (l.length : Int) - p)
def expL (l : List UInt8) (p n k : Int) : ER :=
  if inside l p n = true then
    match splitL l p.toNat n.toNat k with
    | none => ⟨[], 4⟩
    | some x => ⟨x.join, 0⟩
  else ⟨[], 2⟩

theorem part_length {l : List UInt8} {p n : Nat} (h : p + n ≤ l.length) : (part l p n).length = n := by
  rw [part, List.length_take, List.length_drop]; omega
theorem shp_small {k : Int} {s : Sh} (h : shp k = some s) : s.a ≤ 16 ∧ s.n ≤ 2 ∧ s.b ≤ 20 := by
  unfold shp at h
  repeat' split at h
  all_goals first | (cases h; simp) | cases h
theorem ok_len {n : List UInt8} (h : okL n = true) : 1 ≤ n.length ∧ n.length ≤ 255 := ⟨Nm.ok_pos h, ((Nm.okL_spec n).1 h).1⟩

/-- What names are read. -/
theorem rds_good (l : List UInt8) : ∀ (k p : Nat) (ns : List (List UInt8)) (q : Nat), p ≤ l.length → rds l k p = some (ns, q) → ns.length = k ∧ (∀ n ∈ ns, okL n = true) ∧ p ≤ q ∧ q ≤ l.length
  | 0, p, ns, q, hp, h => by
    simp only [rds, Option.some.injEq, Prod.mk.injEq] at h
    obtain ⟨rfl, rfl⟩ := h
    simp [hp]
  | k + 1, p, ns, q, hp, h => by
    simp only [rds] at h
    split at h
    · rename_i he
      rcases Cm.read_names l p with h1 | h1 | ⟨n, m, h1, h2, h3, h4, h5⟩
      · rw [h1] at he; simp [Cm.bad] at he
      · rw [h1] at he; simp [Cm.bad] at he
      · rw [h1] at h
        simp only [Option.map_eq_some_iff, Prod.mk.injEq] at h
        obtain ⟨⟨ns', q'⟩, h6, h7, h8⟩ := h
        simp only at h6 h7 h8
        have ih := rds_good l k m ns' q' h5 h6
        subst h7 h8
        refine ⟨by simp [ih.1], ?_, by omega, ih.2.2.2⟩
        intro x hx
        rcases List.mem_cons.1 hx with rfl | hx
        · exact h2
        · exact ih.2.1 x hx
    · cases h
/-- Names that stand whole are read as they stand. -/
theorem rds_whole (l : List UInt8) : ∀ (ns : List (List UInt8)) (p : Nat) (r : List UInt8), (∀ n ∈ ns, okL n = true) → l.drop p = ns.flatten ++ r → rds l ns.length p = some (ns, p + ns.flatten.length)
  | [], p, r, _, _ => by simp [rds]
  | n :: ns, p, r, h, hd => by
    simp only [List.flatten_cons, List.append_assoc] at hd
    have h1 := Cm.read_whole l n (ns.flatten ++ r) p (h n (by simp)) hd
    have h2 : l.drop (p + n.length) = ns.flatten ++ r := by
      rw [← List.drop_drop, hd, List.drop_left]
    have h3 := rds_whole l ns (p + n.length) r (fun x hx => h x (by simp [hx])) h2
    simp only [List.length_cons, rds, h1, if_true, h3, Option.map_some, List.flatten_cons, List.length_append, Nat.add_assoc]

theorem flatten_bound : ∀ (ns : List (List UInt8)), (∀ n ∈ ns, okL n = true) → ns.flatten.length ≤ 255 * ns.length
  | [], _ => by simp
  | n :: ns, h => by
    have := (ok_len (h n (by simp))).2
    have := flatten_bound ns (fun x hx => h x (by simp [hx]))
    simp only [List.flatten_cons, List.length_append, List.length_cons]
    omega
/-- What has a type's shape. -/
def Fits (s : Sh) (x : Pt) : Prop := x.a.length = s.a ∧ x.ns.length = s.n ∧ (∀ n ∈ x.ns, okL n = true) ∧ x.b.length = s.b
theorem takeL_fits {l : List UInt8} {p e : Nat} {s : Sh} {x : Pt} (he : e ≤ l.length) (h : takeL l p e s = some x) : Fits s x := by
  unfold takeL at h
  split at h
  · rename_i hp
    split at h
    · cases h
    · rename_i ns q hr
      split at h
      · rename_i hq
        cases h
        have g := rds_good l _ _ _ _ hp hr
        exact ⟨part_length hp, g.1, g.2.1, part_length (by omega)⟩
      · cases h
  · cases h
theorem fits_small {k : Int} {s : Sh} {x : Pt} (hs : shp k = some s) (h : Fits s x) : x.join.length ≤ 600 ∧ x.ns.length ≤ 2 := by
  have h1 := shp_small hs
  have h2 := flatten_bound x.ns h.2.2.1
  simp only [Pt.join, List.length_append]
  have := h.1
  have := h.2.1
  have := h.2.2.2
  omega
/-- What stands whole is taken apart as it stands. -/
theorem takeL_whole {s : Sh} {x : Pt} (h : Fits s x) : takeL x.join 0 x.join.length s = some x := by
  obtain ⟨h1, h2, h3, h4⟩ := h
  have hl : x.join.length = s.a + x.ns.flatten.length + s.b := by simp only [Pt.join, List.length_append]; omega
  have hd : x.join.drop s.a = x.ns.flatten ++ x.b := by rw [Pt.join, List.append_assoc, ← h1, List.drop_left]
  have hr := rds_whole x.join x.ns s.a x.b h3 hd
  rw [h2] at hr
  have ha : part x.join 0 s.a = x.a := by rw [part, List.drop_zero, Pt.join, List.append_assoc, ← h1, List.take_left]
  have hb : part x.join (s.a + x.ns.flatten.length) s.b = x.b := by
    rw [part, ← List.drop_drop, hd, List.drop_left, ← h4, List.take_length]
  simp only [takeL, Nat.zero_add]
  rw [if_pos (by omega), hr]
  simp only [hl, if_true, ha, hb]
theorem wholeL_shape {k : Int} {s : Sh} {x : Pt} (hs : shp k = some s) (h : Fits s x) : wholeL k x.join = some x := by
  have hb := (fits_small hs h).1
  have h1 : splitL x.join 0 x.join.length k = some x := by
    rw [splitL, if_neg (by omega), hs]
    simp only [Nat.zero_add]
    exact takeL_whole h
  rw [wholeL, h1]
  simp
theorem splitL_parts {l : List UInt8} {p n : Nat} {k : Int} {x : Pt} (hp : p + n ≤ l.length) (h : splitL l p n k = some x) :
    (∃ s, shp k = some s ∧ Fits s x) ∨ (shp k = none ∧ n ≤ 65535 ∧ x = ⟨part l p n, [], []⟩ ∧ (k = 16 → textsB (part l p n) = true)) := by
  unfold splitL at h
  split at h
  · cases h
  · rename_i hn
    split at h
    · rename_i s hs
      exact .inl ⟨s, hs, takeL_fits hp h⟩
    · rename_i hs
      split at h
      · cases h
      · rename_i ht
        cases h
        refine .inr ⟨hs, by omega, rfl, fun hk => ?_⟩
        cases hb : textsB (part l p n)
        · exact absurd ⟨hk, hb⟩ ht
        · rfl
theorem wholeL_plain {k : Int} {d : List UInt8} (hs : shp k = none) (hn : d.length ≤ 65535) (ht : k = 16 → textsB d = true) : wholeL k d = some ⟨d, [], []⟩ := by
  have hp : part d 0 d.length = d := by rw [part, List.drop_zero, List.take_length]
  have h1 : splitL d 0 d.length k = some ⟨d, [], []⟩ := by
    rw [splitL, if_neg (by omega), hs]
    simp only [hp]
    rw [if_neg]
    intro h
    rw [ht h.1] at h
    exact absurd h.2 (by simp)
  rw [wholeL, h1]
  simp [Pt.join]
theorem wholeL_join {k : Int} {d : List UInt8} {x : Pt} (h : wholeL k d = some x) : x.join = d ∧ splitL d 0 d.length k = some x := by
  unfold wholeL at h
  split at h
  · cases h
  · rename_i p hp
    split at h
    · rename_i he
      cases h
      exact ⟨he, hp⟩
    · cases h
theorem wholeL_parts {k : Int} {d : List UInt8} {x : Pt} (h : wholeL k d = some x) :
    x.join = d ∧ ((∃ s, shp k = some s ∧ Fits s x) ∨ (shp k = none ∧ d.length ≤ 65535 ∧ x = ⟨d, [], []⟩ ∧ (k = 16 → textsB d = true))) := by
  obtain ⟨h1, h2⟩ := wholeL_join h
  refine ⟨h1, ?_⟩
  have hp : part d 0 d.length = d := by rw [part, List.drop_zero, List.take_length]
  have := splitL_parts (by omega) h2
  rw [hp] at this
  exact this
/-- What is taken apart has its type's shape. -/
theorem split_whole {l : List UInt8} {p n : Nat} {k : Int} {x : Pt} (hp : p + n ≤ l.length) (h : splitL l p n k = some x) : wholeL k x.join = some x := by
  rcases splitL_parts hp h with ⟨s, hs, hf⟩ | ⟨hs, hn, rfl, ht⟩
  · exact wholeL_shape hs hf
  · have hj : (Pt.mk (part l p n) [] []).join = part l p n := by simp [Pt.join]
    rw [hj]
    exact wholeL_plain hs (by rw [part_length hp]; exact hn) ht
theorem split_len {l : List UInt8} {p n : Nat} {k : Int} {x : Pt} (hp : p + n ≤ l.length) (h : splitL l p n k = some x) : x.join.length ≤ 65535 ∧ x.ns.length ≤ 2 ∧ (∀ m ∈ x.ns, okL m = true) := by
  rcases splitL_parts hp h with ⟨s, hs, hf⟩ | ⟨hs, hn, rfl, ht⟩
  · have := fits_small hs hf
    exact ⟨by omega, this.2, hf.2.2.1⟩
  · refine ⟨?_, by simp, by simp⟩
    simp only [Pt.join, List.flatten_nil, List.append_nil, part_length hp]
    exact hn
/-- In small letters it has its shape, too. -/
def Pt.low (x : Pt) : Pt := ⟨x.a, x.ns.map lowL, x.b⟩
theorem map_low_ok {ns : List (List UInt8)} (h : ∀ n ∈ ns, okL n = true) : ∀ n ∈ ns.map lowL, okL n = true := by
  intro n hn
  obtain ⟨m, hm, rfl⟩ := List.mem_map.1 hn
  rw [Nm.ok_low]
  exact h m hm
theorem low_whole {k : Int} {d : List UInt8} {x : Pt} (h : wholeL k d = some x) : wholeL k x.low.join = some x.low := by
  obtain ⟨h1, ⟨s, hs, hf⟩ | ⟨hs, hn, rfl, ht⟩⟩ := wholeL_parts h
  · exact wholeL_shape hs ⟨hf.1, by simp [Pt.low, hf.2.1], map_low_ok hf.2.2.1, hf.2.2.2⟩
  · have e : (Pt.mk d [] []).low = ⟨d, [], []⟩ := rfl
    rw [e, h1]
    exact h
theorem flatten_low : ∀ (ns : List (List UInt8)), (ns.map lowL).flatten.length = ns.flatten.length
  | [] => rfl
  | n :: ns => by
    have := flatten_low ns
    simp only [List.map_cons, List.flatten_cons, List.length_append, Nm.lowL_length, this]
theorem low_length (x : Pt) : x.low.join.length = x.join.length := by
  simp only [Pt.join, Pt.low, List.length_append, flatten_low]
theorem low_twice (x : Pt) : x.low.low = x.low := by
  simp only [Pt.low, List.map_map]
  congr 1
  refine List.map_congr_left fun n _ => ?_
  exact Nm.lowL_twice n
theorem whole_names {k : Int} {d : List UInt8} {x : Pt} (h : wholeL k d = some x) : x.ns.length ≤ 2 ∧ (∀ m ∈ x.ns, okL m = true) ∧ d.length ≤ 65535 := by
  obtain ⟨h1, h2⟩ := wholeL_join h
  have := split_len (by omega) h2
  rw [h1] at this
  exact ⟨this.2.1, this.2.2, this.1⟩
end Go.Proofs.Ythoominldliphaa.Dt
