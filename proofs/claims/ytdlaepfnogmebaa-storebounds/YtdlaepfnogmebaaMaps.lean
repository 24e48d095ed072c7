/- A map whose elements are numbers, that a call itself makes: what it holds, as a function. No condition. -/
import Derived.Test.YtdlaepfnogmebaaBase
import Derived.Maps.Own
import Derived.Maps.OwnOps
import Derived.Maps.OwnSet
import Derived.Maps.Views
namespace Go.Proofs.Ytdlaepfnogmebaa
open Go.RowKit
open Go.Maps (Keyed)

/-- Block b is a map (keys of type k, elements of type e, int) that holds, at the key kv a, what f a says. -/
def MapAt (w : World) (k e : TypeId) {α : Type} (kv : α → Value) (b n : Nat) (f : α → Option Int) : Prop :=
  ∃ D : DataW Unit, w.ownsMap Try.prog k (plainElem Try.prog e) b n D ∧ ∀ a kl, keyOf Try.prog k (kv a) = some kl → Maps.has D kl = (f a).isSome ∧ ∀ c, f a = some c → D.atKey kl (.lit (.int .i64 0)) = .lit (.int .i64 c)

theorem MapAt.made (w : World) (k e : TypeId) {α : Type} (kv : α → Value) : MapAt (w.alloc (.map #[] 0)) k e kv w.heap.size 0 (fun _ => none) :=
  ⟨_, World.ownsMap_made _ _ _ _, fun a kl _ => ⟨rfl, fun c h => by cases h⟩⟩
theorem MapAt.lt {w : World} {k e : TypeId} {α : Type} {kv : α → Value} {b n : Nat} {f : α → Option Int} (h : MapAt w k e kv b n f) : b < w.heap.size := by
  obtain ⟨D, h1, _⟩ := h
  exact h1.lt
theorem MapAt.kept {w w' : World} {k e : TypeId} {α : Type} {kv : α → Value} {b n : Nat} {f : α → Option Int} (h : MapAt w k e kv b n f) {row : Option Nat} (hg : w.grownBy w' row) (hne : some b ≠ row) : MapAt w' k e kv b n f := by
  obtain ⟨D, h1, h2⟩ := h
  exact ⟨D, h1.kept hg hne, h2⟩
theorem MapAt.keeps {w w' : World} {k e : TypeId} {α : Type} {kv : α → Value} {b n : Nat} {f : α → Option Int} (h : MapAt w k e kv b n f) (hk : Keeps w w') : MapAt w' k e kv b n f := by
  obtain ⟨D, ⟨es, clock, hb, h1⟩, h2⟩ := h
  exact ⟨D, ⟨es, clock, (hk.block b (Array.getElem?_eq_some_iff.1 hb).1).trans hb, h1⟩, h2⟩
theorem MapAt.alloc {w : World} {k e : TypeId} {α : Type} {kv : α → Value} {b n : Nat} {f : α → Option Int} (h : MapAt w k e kv b n f) (o : Obj) : MapAt (w.alloc o) k e kv b n f := h.keeps ((Keeps.refl w).alloc o)
theorem MapAt.drew {w : World} {k e : TypeId} {α : Type} {kv : α → Value} {b n : Nat} {f : α → Option Int} (h : MapAt w k e kv b n f) : MapAt w.drew k e kv b n f := h.keeps ((Keeps.refl w).drew)
theorem MapAt.setCell {w : World} {k e : TypeId} {α : Type} {kv : α → Value} {b n : Nat} {f : α → Option Int} (h : MapAt w k e kv b n f) {a : Addr} (ha : b ≠ a.block) (u : Value) : MapAt (w.setCell a u) k e kv b n f := by
  obtain ⟨D, h1, h2⟩ := h
  exact ⟨D, h1.setCell ha u, h2⟩
/-- All that is no row of that kind stands as it stood: so the map does. -/
theorem MapAt.others {w w' : World} {k e : TypeId} {α : Type} {kv : α → Value} {b n : Nat} {f : α → Option Int} (h : MapAt w k e kv b n f) {ty : TypeId} (ho : Lib.OthersKept ty none w w') : MapAt w' k e kv b n f := by
  obtain ⟨D, ⟨es, clock, hb, h1⟩, h2⟩ := h
  exact ⟨D, ⟨es, clock, ho b _ hb (by simp) (fun _ _ e1 => by cases e1), h1⟩, h2⟩

/-- 'v, ok := m[a]'. -/
theorem wpList_look (t k e : TypeId) (w : World) {ops : Array Oper} {rest : List Oper} {o : Oper} {a : Act} {Q : Exit → Act → World → Prop} (hg : o.guard = none) (m x : Operand) (hop : o.op = Op.lookup t m x true)
    (K : Keyed Try.prog k) (ht : Try.prog.underlying t = some (.map k e)) (he : Try.prog.underlying e = some (.int .i64)) (hz : ∀ w, (zeroValue e).run Try.prog w = .ok (.int .i64 0) w)
    {α : Type} (kv : α → Value) (b n : Nat) (f : α → Option Int) (hm : a.eval m = .map (some b)) (hown : MapAt w k e kv b n f) (z : α) (hx : a.eval x = kv z) (hkey : ∃ kl, keyOf Try.prog k (kv z) = some kl)
    (hK : ∀ c : Int, (∀ d, f z = some d → c = d) → wpList Try.prog ops Q rest (a.put o.dst (.tuple #[.int .i64 c, .bool (f z).isSome])) w) : wpList Try.prog ops Q (o :: rest) a w := by
  obtain ⟨kl, hkl⟩ := hkey
  obtain ⟨D, h1, h2⟩ := hown
  refine wpList_lookup_own_ok_int w hg m x t hop k e .i64 K ht he (hz w) b n D hm h1 (kv z) kl hx hkl ?_
  intro c hat hwc
  obtain ⟨h3, h4⟩ := h2 z kl hkl
  rw [h3]
  refine hK c fun d hd => ?_
  have := (h4 d hd).symm.trans hat
  simpa using this.symm

/-- 'm[a] = c'. -/
theorem wpList_put (t k e : TypeId) (w : World) {ops : Array Oper} {rest : List Oper} {o : Oper} {a : Act} {Q : Exit → Act → World → Prop} (hg : o.guard = none) (m x v : Operand) (hop : o.op = Op.mapUpdate t m x v)
    (K : Keyed Try.prog k) (ht : Try.prog.underlying t = some (.map k e)) (he : Try.prog.underlying e = some (.int .i64))
    {α : Type} [DecidableEq α] (kv : α → Value) (hinj : ∀ x y, kv x = kv y → x = y) (b n : Nat) (f : α → Option Int) (hm : a.eval m = .map (some b)) (hown : MapAt w k e kv b n f) (hn : n < maxLen) (z : α) (hx : a.eval x = kv z) (hkey : ∃ kl, keyOf Try.prog k (kv z) = some kl)
    (c : Int) (hv : a.eval v = .int .i64 c) (hc : -9223372036854775808 ≤ c ∧ c ≤ 9223372036854775807)
    (hK : ∀ w', MapAt w' k e kv b (n + 1) (fun y => if y = z then some c else f y) → w.grownBy w' (some b) → wpList Try.prog ops Q rest (a.put o.dst undef) w') : wpList Try.prog ops Q (o :: rest) a w := by
  obtain ⟨kl, hkl⟩ := hkey
  obtain ⟨D, h1, h2⟩ := hown
  refine wpList_mapUpdate_own w hg m x v t hop k e K ht _ b n D hm h1 hn (kv z) (.int .i64 c) kl hx hv hkl (.lit (.int .i64 c)) [] (plainElem_int he (WalkArith.wf_i64 (by omega))) ?_
  intro w' h3 h4
  refine hK w' ⟨_, h3, fun y kl' hy => ?_⟩ h4
  by_cases hyz : y = z
  · subst hyz
    rw [hkl] at hy
    cases hy
    have hk := K.key hkl
    refine ⟨by rw [Maps.has_put_same h1.isMap hk]; simp, fun d hd => ?_⟩
    simp at hd
    subst hd
    exact Maps.atKey_put_same h1.isMap hk _ _
  · have hne : kl' ≠ kl := by
      intro e1
      subst e1
      exact hyz (hinj _ _ (K.inj hy hkl))
    obtain ⟨h5, h6⟩ := h2 y kl' hy
    rw [Maps.has_put_other hne]
    simp only [if_neg hyz]
    exact ⟨h5, fun d hd => by rw [Maps.atKey_put_other hne]; exact h6 d hd⟩
end Go.Proofs.Ytdlaepfnogmebaa
