/- A map as a function from its keys to the very values that it holds. No condition. -/
import Derived.Test.YtdlaepfnogmebaaMsg
import Derived.Maps.Own
import Derived.Maps.OwnOps
import Derived.Maps.OwnSet
import Derived.Maps.Views
namespace Go.Proofs.Ytdlaepfnogmebaa
open Go.RowKit
open Go.Maps (Keyed)

/-- An element is read as itself. -/
def heldR (v : Value) : Option (DataW Value × List MemPlace) := some (.held v, [])
/-- Block b is a map (keys of type k) that holds, at the key kv a, the value f a. -/
def MapV (w : World) (k : TypeId) {α : Type} (kv : α → Value) (b n : Nat) (f : α → Option Value) : Prop :=
  ∃ D : DataW Value, w.ownsMap Try.prog k heldR b n D ∧ ∀ a kl, keyOf Try.prog k (kv a) = some kl → Maps.has D kl = (f a).isSome ∧ ∀ v, f a = some v → ∀ z, D.atKey kl z = .held v

section
variable {w w' : World} {k : TypeId} {α : Type} {kv : α → Value} {b n : Nat} {f : α → Option Value}
theorem MapV.made (w : World) (k : TypeId) {α : Type} (kv : α → Value) : MapV (w.alloc (.map #[] 0)) k kv w.heap.size 0 (fun _ => none) :=
  ⟨_, World.ownsMap_made _ _ _ _, fun a kl _ => ⟨rfl, fun c h => by cases h⟩⟩
theorem MapV.lt (h : MapV w k kv b n f) : b < w.heap.size := by
  obtain ⟨D, h1, _⟩ := h
  exact h1.lt
theorem MapV.same (h : MapV w k kv b n f) (e : w'.heap[b]? = w.heap[b]?) : MapV w' k kv b n f := by
  obtain ⟨D, ⟨es, clock, hb, h1⟩, h2⟩ := h
  exact ⟨D, ⟨es, clock, e.trans hb, h1⟩, h2⟩
theorem MapV.keeps (h : MapV w k kv b n f) (hk : Keeps w w') : MapV w' k kv b n f := h.same (hk.block b h.lt)
theorem MapV.mono (h : MapV w k kv b n f) {n' : Nat} (hn : n ≤ n') : MapV w k kv b n' f := by
  obtain ⟨D, h1, h2⟩ := h
  exact ⟨D, h1.mono hn, h2⟩
theorem MapV.look (h : MapV w k kv b n f) {t e : TypeId} (K : Keyed Try.prog k) (ht : Try.prog.underlying t = some (.map k e)) {z : Value} (hz : ∀ w, (zeroValue e).run Try.prog w = .ok z w) (a : α) (hkey : ∃ kl, keyOf Try.prog k (kv a) = some kl) :
    (Instr.lookup t (.map (some b)) (kv a) false).run Try.prog w = .ok ((f a).getD z) w := by
  obtain ⟨kl, hkl⟩ := hkey
  obtain ⟨D, h1, h2⟩ := h
  obtain ⟨v, ps, hrun, hv⟩ := h1.lookup K ht (hz w) (zd := .held z) (zp := []) rfl hkl
  obtain ⟨h3, h4⟩ := h2 a kl hkl
  have hv' : v = (f a).getD z := by
    simp only [heldR, Option.some.injEq, Prod.mk.injEq] at hv
    cases hf : f a with
    | some x =>
      rw [h4 x hf] at hv
      simpa using hv.1
    | none =>
      have : D.atKey kl (.held z) = .held z := Maps.atKey_of_not_has (by rw [h3, hf]; rfl) _
      rw [this] at hv
      simpa using hv.1
  rw [← hv']
  exact hrun
theorem MapV.look_ok (h : MapV w k kv b n f) {t e : TypeId} (K : Keyed Try.prog k) (ht : Try.prog.underlying t = some (.map k e)) {z : Value} (hz : ∀ w, (zeroValue e).run Try.prog w = .ok z w) (a : α) (hkey : ∃ kl, keyOf Try.prog k (kv a) = some kl) :
    (Instr.lookup t (.map (some b)) (kv a) true).run Try.prog w = .ok (.tuple #[(f a).getD z, .bool (f a).isSome]) w := by
  obtain ⟨kl, hkl⟩ := hkey
  obtain ⟨D, h1, h2⟩ := h
  obtain ⟨v, ps, hrun, hv⟩ := h1.look_ok K ht (hz w) (zd := .held z) (zp := []) rfl hkl
  obtain ⟨h3, h4⟩ := h2 a kl hkl
  have hv' : v = (f a).getD z := by
    simp only [heldR, Option.some.injEq, Prod.mk.injEq] at hv
    cases hf : f a with
    | some x =>
      rw [h4 x hf] at hv
      simpa using hv.1
    | none =>
      have : D.atKey kl (.held z) = .held z := Maps.atKey_of_not_has (by rw [h3, hf]; rfl) _
      rw [this] at hv
      simpa using hv.1
  rw [← hv', ← h3]
  exact hrun
theorem MapV.put (h : MapV w k kv b n f) {t e : TypeId} [DecidableEq α] (K : Keyed Try.prog k) (ht : Try.prog.underlying t = some (.map k e)) (hinj : ∀ x y, kv x = kv y → x = y) (hn : n < maxLen) (a : α) (hkey : ∃ kl, keyOf Try.prog k (kv a) = some kl) (val : Value) :
    ∃ w', (Instr.mapUpdate t (.map (some b)) (kv a) val).run Try.prog w = .ok () w' ∧ MapV w' k kv b (n + 1) (fun y => if y = a then some val else f y) ∧ w.mapTurned w' b := by
  obtain ⟨kl, hkl⟩ := hkey
  obtain ⟨D, h1, h2⟩ := h
  obtain ⟨w', hrun, h3, h4⟩ := h1.store K ht hn (val := val) (d := .held val) (ps := []) hkl rfl
  refine ⟨w', hrun, ⟨_, h3, fun y kl' hy => ?_⟩, h4⟩
  by_cases hya : y = a
  · subst hya
    rw [hkl] at hy
    cases hy
    have hk := K.key hkl
    refine ⟨by rw [Maps.has_put_same h1.isMap hk]; simp, fun d hd => ?_⟩
    simp at hd
    subst hd
    exact fun z => Maps.atKey_put_same h1.isMap hk _ _
  · have hne : kl' ≠ kl := by
      intro e1
      subst e1
      exact hya (hinj _ _ (K.inj hy hkl))
    obtain ⟨h5, h6⟩ := h2 y kl' hy
    rw [Maps.has_put_other hne]
    simp only [if_neg hya]
    exact ⟨h5, fun d hd z => by rw [Maps.atKey_put_other hne]; exact h6 d hd z⟩
theorem MapV.del (h : MapV w k kv b n f) {t e : TypeId} [DecidableEq α] (K : Keyed Try.prog k) (ht : Try.prog.underlying t = some (.map k e)) (hinj : ∀ x y, kv x = kv y → x = y) (a : α) (hkey : ∃ kl, keyOf Try.prog k (kv a) = some kl) (ty : TypeId) :
    ∃ w', (Builtin.delete_ #[t, k] ty #[.map (some b), kv a]).run Try.prog w = .ok (.tuple #[]) w' ∧ MapV w' k kv b n (fun y => if y = a then none else f y) ∧ w.mapTurned w' b := by
  obtain ⟨kl, hkl⟩ := hkey
  obtain ⟨D, h1, h2⟩ := h
  obtain ⟨w', hrun, h3, h4⟩ := h1.drop K ht hkl ty
  refine ⟨w', hrun, ⟨_, h3, fun y kl' hy => ?_⟩, h4⟩
  by_cases hya : y = a
  · subst hya
    rw [hkl] at hy
    cases hy
    exact ⟨by rw [Maps.has_del_same]; simp, fun d hd => by simp at hd⟩
  · have hne : kl' ≠ kl := by
      intro e1
      subst e1
      exact hya (hinj _ _ (K.inj hy hkl))
    obtain ⟨h5, h6⟩ := h2 y kl' hy
    rw [Maps.has_del_other hne]
    simp only [if_neg hya]
    exact ⟨h5, fun d hd z => by rw [Maps.atKey_del_other hne]; exact h6 d hd z⟩
end

/-- All but two blocks stand as they stood. -/
structure KB (p m : Nat) (w w' : World) : Prop where
  os : w'.os = w.os
  tape : w'.tape = w.tape
  output : w'.output = w.output
  size : w.heap.size ≤ w'.heap.size
  block : ∀ k, k < w.heap.size → k ≠ p → k ≠ m → w'.heap[k]? = w.heap[k]?
theorem KB.refl (p m : Nat) (w : World) : KB p m w w := ⟨rfl, rfl, rfl, Nat.le_refl _, fun _ _ _ _ => rfl⟩
theorem KB.trans {p m : Nat} {a b c : World} (h : KB p m a b) (k : KB p m b c) : KB p m a c :=
  ⟨k.os.trans h.os, k.tape.trans h.tape, k.output.trans h.output, Nat.le_trans h.size k.size, fun i hi hp hm => (k.block i (Nat.lt_of_lt_of_le hi h.size) hp hm).trans (h.block i hi hp hm)⟩
theorem KB.of {p m : Nat} {a b : World} (h : Keeps a b) : KB p m a b := ⟨h.os, h.tape, h.output, h.size, fun i hi _ _ => h.block i hi⟩
theorem KB.below {p m B : Nat} {a b : World} (h : KB p m a b) (hp : B ≤ p) (hm : B ≤ m) (hB : B ≤ a.heap.size) : Below B a b :=
  ⟨h.os, h.tape, h.output, h.size, fun i hi => h.block i (by omega) (by omega) (by omega)⟩
theorem KB.setP {p m : Nat} (w : World) (i : Nat) (u : Value) : KB p m w (w.setCell ⟨p, i, none⟩ u) :=
  ⟨rfl, rfl, rfl, by simp [World.setCell], fun j _ hp _ => Below.heap_setCell _ _ _ _ hp⟩
theorem KB.turned {p m : Nat} {w w' : World} (h : w.mapTurned w' m) : KB p m w w' := by
  have hg := h.grown
  exact ⟨hg.os, hg.tape, hg.output, hg.size, fun i hi _ hm => hg.block i hi (by simp; omega)⟩
theorem KB.drew {p m : Nat} {a b : World} (h : KB p m a b) : KB p m a b.drew := ⟨h.os, h.tape, h.output, h.size, h.block⟩
theorem KB.cell {p m : Nat} {a b : World} (h : KB p m a b) {x : Addr} (hl : x.block < a.heap.size) (hp : x.block ≠ p) (hm : x.block ≠ m) : b.cell? x = a.cell? x := World.cell?_of_block (w := a) (h.block x.block hl hp hm)

/-- The slice v lies in neither of the two blocks, and above the first one. -/
def Apart (v : Value) (p m : Nat) : Prop := ∀ a n cap, v = .slice (some a) n cap → a.block ≠ p ∧ a.block ≠ m ∧ p < a.block
theorem Apart.none (n cap p m : Nat) : Apart (.slice none n cap) p m := fun a n' cap' h => by cases h
theorem ReadRow.kb {p m c : Nat} {a b : World} {v : Value} {rows : List (List Value)} (h : ReadRow a v c rows) (hv : Apart v p m) (k : KB p m a b) : ReadRow b v c rows := by
  obtain ⟨av, cap, rfl, hle, hp⟩ := h
  refine ⟨av, cap, rfl, hle, fun hpos => ?_⟩
  obtain ⟨g, off, rfl, hlt, hc⟩ := hp hpos
  obtain ⟨h1, h2, _⟩ := hv _ _ _ rfl
  exact ⟨g, off, rfl, Nat.lt_of_lt_of_le hlt k.size, fun i hi j hj => (k.cell (x := ⟨g, off + i * c + j, none⟩) hlt h1 h2).trans (hc i hi j hj)⟩
theorem ReadS.kb {p m : Nat} {a b : World} {v : Value} {ls : List (List UInt8)} (h : ReadS a v ls) (hv : Apart v p m) (k : KB p m a b) : ReadS b v ls := by
  obtain ⟨av, cap, rfl, hle, hc⟩ := h
  refine ⟨av, cap, rfl, hle, fun i hi => ?_⟩
  obtain ⟨x, rfl, hx⟩ := hc i hi
  obtain ⟨h1, h2, _⟩ := hv _ _ _ rfl
  have hb : (x.add i).block = x.block := by simp [Addr.add]; split <;> rfl
  have hl := World.block_lt_of_cell? a _ hx
  exact ⟨x, rfl, (k.cell (x := x.add i) hl (by rw [hb]; exact h1) (by rw [hb]; exact h2)).trans hx⟩
theorem Blk.kb {p m G : Nat} {a b : World} {cs : Array Value} {ty : TypeId} (h : Blk a G cs ty) (hp : G ≠ p) (hm : G ≠ m) (k : KB p m a b) : Blk b G cs ty := (k.block G h.lt hp hm).trans h
/-- What a call made lies apart from what was there. -/
theorem OwnsR.apart {w : World} {B : Nat} {ty : TypeId} {c : Nat} {v : Value} {rows : List (List Value)} (h : OwnsR w B ty c v rows) {p m : Nat} (hp : p < B) (hm : m < B) : Apart v p m := by
  intro a n cap e
  rcases h.1.2 with ⟨rfl, _⟩ | ⟨g, cap', cur, rfl, hB, _⟩
  · cases e
  · simp only [Value.slice.injEq, Option.some.injEq] at e
    obtain ⟨rfl, _⟩ := e
    exact ⟨by show g ≠ p; omega, by show g ≠ m; omega, by show p < g; omega⟩
/-- The slice v lies in neither of the two blocks, above the first one, in no block of XG; and all those are there. -/
structure Pl (XG : Nat → Prop) (w : World) (v : Value) (p m : Nat) : Prop where
  ap : Apart v p m
  av : ∀ a n cap, v = .slice (some a) n cap → ¬ XG a.block ∧ a.block < w.heap.size
  gl : ∀ g, XG g → g < w.heap.size
theorem Pl.size {XG : Nat → Prop} {w w' : World} {v : Value} {p m : Nat} (h : Pl XG w v p m) (hs : w.heap.size ≤ w'.heap.size) : Pl XG w' v p m :=
  ⟨h.ap, fun a n cap e => ⟨(h.av a n cap e).1, Nat.lt_of_lt_of_le (h.av a n cap e).2 hs⟩, fun g hg => Nat.lt_of_lt_of_le (h.gl g hg) hs⟩
theorem Pl.none {XG : Nat → Prop} {w : World} (n cap p m : Nat) (hg : ∀ g, XG g → g < w.heap.size) : Pl XG w (.slice none n cap) p m :=
  ⟨Apart.none _ _ _ _, fun a n' cap' h => (by cases h), hg⟩
theorem OwnsR.inw {w : World} {B : Nat} {ty : TypeId} {c : Nat} {v : Value} {rows : List (List Value)} (h : OwnsR w B ty c v rows) : ∀ a k cp, v = .slice (some a) k cp → a.block < w.heap.size := by
  intro a n cap e
  rcases h.1.2 with ⟨rfl, _⟩ | ⟨g, cap', cur, rfl, hB, hg, _⟩
  · cases e
  · simp only [Value.slice.injEq, Option.some.injEq] at e
    obtain ⟨rfl, _⟩ := e
    exact (Array.getElem?_eq_some_iff.1 hg).1
theorem OwnsR.pl {XG : Nat → Prop} {w : World} {B : Nat} {ty : TypeId} {c : Nat} {v : Value} {rows : List (List Value)} (h : OwnsR w B ty c v rows) {p m : Nat} (hp : p < B) (hm : m < B) (hG : ∀ g, XG g → g < B) (hGw : ∀ g, XG g → g < w.heap.size) : Pl XG w v p m := by
  refine ⟨h.apart hp hm, fun a n cap e => ⟨fun hx => ?_, h.inw a n cap e⟩, hGw⟩
  have h1 := hG _ hx
  rcases h.1.2 with ⟨rfl, _⟩ | ⟨g, cap', cur, rfl, hB, _⟩
  · cases e
  · simp only [Value.slice.injEq, Option.some.injEq] at e
    obtain ⟨rfl, _⟩ := e
    have h2 : g < B := h1
    omega
/-- No block. -/
def noG : Nat → Prop := fun _ => False
/-- What stands in a block that has not turned is read as it was. -/
theorem ReadRow.stay {w w' : World} {v : Value} {c : Nat} {rows : List (List Value)} (h : ReadRow w v c rows) (hs : w.heap.size ≤ w'.heap.size) (hv : ∀ a n cap, v = .slice (some a) n cap → w'.heap[a.block]? = w.heap[a.block]?) : ReadRow w' v c rows := by
  obtain ⟨av, cap, rfl, hle, hp⟩ := h
  refine ⟨av, cap, rfl, hle, fun hpos => ?_⟩
  obtain ⟨g, off, rfl, hlt, hc⟩ := hp hpos
  have hb := hv _ _ _ rfl
  exact ⟨g, off, rfl, Nat.lt_of_lt_of_le hlt hs, fun i hi j hj => (show w'.cell? ⟨g, off + i * c + j, none⟩ = w.cell? ⟨g, off + i * c + j, none⟩ from World.cell?_of_block hb).trans (hc i hi j hj)⟩
theorem ReadS.stay {w w' : World} {v : Value} {ls : List (List UInt8)} (h : ReadS w v ls) (hv : ∀ a n cap, v = .slice (some a) n cap → w'.heap[a.block]? = w.heap[a.block]?) : ReadS w' v ls := by
  obtain ⟨av, cap, rfl, hle, hc⟩ := h
  refine ⟨av, cap, rfl, hle, fun i hi => ?_⟩
  obtain ⟨x, rfl, hx⟩ := hc i hi
  have hb : (x.add i).block = x.block := by simp [Addr.add]; split <;> rfl
  have hb2 := hv _ _ _ rfl
  exact ⟨x, rfl, (show w'.cell? (x.add i) = w.cell? (x.add i) from World.cell?_of_block (by rw [hb]; exact hb2)).trans hx⟩
end Go.Proofs.Ytdlaepfnogmebaa
