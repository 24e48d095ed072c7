/- The document's answers of layer 13, of numbers. No condition but lengths. -/
import Derived.Test.YtdlaepfnogmebaaBase
import Derived.Test.YtdlaepfnogmebaaMsg
import Derived.Test.YtdlaepfnogmebaaMany
import Derived.Test.YtdlaepfnogmebaaMaps
import Derived.Deep.RegionHeld3
import Derived.Deep.DeepCutAuto
namespace Go.Proofs.Ytdlaepfnogmebaa.Lr

/-- l without k. -/
def drop {α : Type} [DecidableEq α] (l : List α) (k : α) : List α := l.filter (fun x => decide (x ≠ k))
def touch {α : Type} [DecidableEq α] (l : List α) (k : α) : List α := drop l k ++ [k]
/-- Where the last ones begin. -/
def cutAt (n : Nat) (most : Int) : Nat := n - (min (max most 0) n).toNat
theorem cutAt_le (n : Nat) (most : Int) : cutAt n most ≤ n := Nat.sub_le _ _
theorem cutAt_val (n : Nat) (most : Int) : ((cutAt n most : Nat) : Int) = n - min (max most 0) n := by unfold cutAt; omega
theorem cutAt_ref (n : Nat) (most : Int) : ((cutAt n most : Nat) : Int) = n - max (min most n) 0 := by unfold cutAt; omega
theorem drop_step {α : Type} [DecidableEq α] (l : List α) (k : α) (j : Nat) (hj : j < l.length) : drop (l.take (j + 1)) k = drop (l.take j) k ++ (if l[j] = k then [] else [l[j]]) := by
  rw [List.take_succ_eq_append_getElem hj]
  unfold drop
  rw [List.filter_append]
  by_cases h : l[j] = k <;> simp [h]
theorem drop_len {α : Type} [DecidableEq α] (l : List α) (k : α) : (drop l k).length ≤ l.length := List.length_filter_le _ _
end Go.Proofs.Ytdlaepfnogmebaa.Lr

namespace Go.Proofs.Ytdlaepfnogmebaa
open Go.RowKit

def i1 (x : Int) : Value := .int .i64 x
def iv (x : Int) : List Value := [i1 x]
def tv (x : List UInt8) : List Value := [sv x]
theorem Try.infoInt : (Try.prog.info? 3).map (fun i => (i.zero, i.size, i.bytes)) = some (some (.int .i64 0), 1, 8) := by kernel_rfl
/-- A call that answers numbers. -/
def IntsEnd (w : World) (l : List Int) (e : Ending) (w' : World) : Prop := ∃ v, e = .returned v ∧ OwnsR w' w.heap.size 3 1 v (l.map iv) ∧ Keeps w w'
theorem IntsEnd.mk {w w' : World} {l : List Int} {v : Value} (h : OwnsR w' w.heap.size 3 1 v (l.map iv)) (k : Keeps w w') : IntsEnd w l (.returned v) w' := ⟨v, rfl, h, k⟩
theorem iv_ones (x : Int) : ∀ u ∈ iv x, u.oneCell' = true := by
  intro u hu
  rw [iv, List.mem_singleton] at hu
  subst hu
  rfl
theorem tv_ones (x : List UInt8) : ∀ u ∈ tv x, u.oneCell' = true := by
  intro u hu
  rw [tv, List.mem_singleton] at hu
  subst hu
  rfl
/-- A call that answers rows. -/
def REnd (w : World) (ty : TypeId) (c : Nat) (l : List (List Value)) (e : Ending) (w' : World) : Prop := ∃ v, e = .returned v ∧ OwnsR w' w.heap.size ty c v l ∧ Keeps w w'
theorem REnd.mk {w w' : World} {ty : TypeId} {c : Nat} {l : List (List Value)} {v : Value} (h : OwnsR w' w.heap.size ty c v l) (k : Keeps w w') : REnd w ty c l (.returned v) w' := ⟨v, rfl, h, k⟩
theorem row1i {w : World} {b off n cap : Nat} {l : List Int} (h : ReadRow w (.slice (some ⟨b, off, none⟩) n cap) 1 (l.map iv)) {j : Nat} (hj : j < l.length) : w.cell? ⟨b, off + j, none⟩ = some (i1 l[j]) := by
  obtain ⟨b', off', hb, _, hc⟩ := h.parts (by rw [List.length_map]; omega)
  simp only [Option.some.injEq, Addr.mk.injEq, and_true] at hb
  obtain ⟨rfl, rfl⟩ := hb
  have hj' : j < (l.map iv).length := by simpa using hj
  have := hc j hj' 0 (by decide)
  rw [Nat.mul_one, Nat.add_zero] at this
  rw [this]
  simp [iv]
theorem row1t {w : World} {b off n cap : Nat} {l : List (List UInt8)} (h : ReadRow w (.slice (some ⟨b, off, none⟩) n cap) 1 (l.map tv)) {j : Nat} (hj : j < l.length) : w.cell? ⟨b, off + j, none⟩ = some (sv l[j]) := by
  obtain ⟨b', off', hb, _, hc⟩ := h.parts (by rw [List.length_map]; omega)
  simp only [Option.some.injEq, Addr.mk.injEq, and_true] at hb
  obtain ⟨rfl, rfl⟩ := hb
  have hj' : j < (l.map tv).length := by simpa using hj
  have := hc j hj' 0 (by decide)
  rw [Nat.mul_one, Nat.add_zero] at this
  rw [this]
  simp [tv]
theorem lr_nodup_upto {α : Type} [DecidableEq α] (l : List α) (j : Nat) (hj : j < l.length) (h : (l.take j).Nodup) (hn : l[j] ∉ l.take j) : (l.take (j + 1)).Nodup := by
  rw [List.take_succ_eq_append_getElem hj, List.nodup_append]
  refine ⟨h, by simp, ?_⟩
  intro a ha b hb
  simp at hb
  subst hb
  intro e
  subst e
  exact hn ha
theorem lr_nodup_not {α : Type} [DecidableEq α] (l : List α) (j : Nat) (hj : j < l.length) (hn : l[j] ∈ l.take j) : ¬ l.Nodup := by
  intro h
  rw [← List.take_append_drop j l, List.nodup_append] at h
  have hm : l[j] ∈ l.drop j := by rw [List.drop_eq_getElem_cons hj]; exact List.mem_cons_self
  exact h.2.2 _ hn _ hm rfl
open Go.Maps (Keyed)
theorem lr_lawi : Keyed Try.prog 3 := Go.Maps.int_keyed Try.underlying3
theorem lr_lawt : Keyed Try.prog 9 := Go.Maps.string_keyed Try.underlying9
theorem lr_zeroI (w : World) : (zeroValue 3).run Try.prog w = .ok (.int .i64 0) w := by kernel_rfl
/-- May be a key. -/
def kin_i (x : Int) : Prop := -9223372036854775808 ≤ x ∧ x ≤ 9223372036854775807
def kin_t (x : List UInt8) : Prop := x.length ≤ maxLen
theorem lr_key_i {x : Int} (h : kin_i x) : ∃ kl, keyOf Try.prog 3 (i1 x) = some kl := ⟨_, Go.Maps.keyOf_int_mk Try.underlying3 (WalkArith.wf_i64 (by unfold kin_i at h; omega))⟩
theorem lr_key_t {d : List UInt8} (h : kin_t d) : ∃ kl, keyOf Try.prog 9 (sv d) = some kl := ⟨_, WideMaps.keyOf_string_mk Try.underlying9 (by show d.toArray.size ≤ maxLen; simpa [kin_t] using h)⟩
theorem lr_inj_i (x y : Int) (h : i1 x = i1 y) : x = y := by simpa [i1] using h
theorem lr_inj_t (x y : List UInt8) (h : sv x = sv y) : x = y := by simpa [sv] using h
/-- A call that answers two lists. -/
def CutEnd (w : World) (ty : TypeId) (c : Nat) (l1 l2 : List (List Value)) (e : Ending) (w' : World) : Prop := ∃ v1 v2, e = .returned (.tuple #[v1, v2]) ∧ OwnsR w' w.heap.size ty c v1 l1 ∧ OwnsR w' w.heap.size ty c v2 l2 ∧ Keeps w w'
theorem CutEnd.mk {w w' : World} {ty : TypeId} {c : Nat} {l1 l2 : List (List Value)} {v1 v2 : Value} (h : OwnsR w' w.heap.size ty c v1 l1) (g : OwnsR w' w.heap.size ty c v2 l2) (k : Keeps w w') : CutEnd w ty c l1 l2 (.returned (.tuple #[v1, v2])) w' := ⟨v1, v2, rfl, h, g, k⟩
theorem OwnsR.le {w : World} {B B' : Nat} {ty : TypeId} {c : Nat} {v : Value} {l : List (List Value)} (h : OwnsR w B ty c v l) (hb : B' ≤ B) : OwnsR w B' ty c v l := by
  refine ⟨⟨h.1.1, ?_⟩, h.2⟩
  rcases h.1.2 with hn | ⟨g, cap, cur, rfl, hB, rest⟩
  · exact .inl hn
  · exact .inr ⟨g, cap, cur, rfl, by omega, rest⟩
/-- A part of what a slice reads as. -/
theorem ReadRow.part {w : World} {b off n cap c : Nat} {rows : List (List Value)} (h : ReadRow w (.slice (some ⟨b, off, none⟩) n cap) c rows) (lo hi cap' : Nat) (h1 : lo ≤ hi) (h2 : hi ≤ rows.length) (hc : hi - lo ≤ cap') :
    ReadRow w (.slice (some ⟨b, off + lo * c, none⟩) (hi - lo) cap') c ((rows.take hi).drop lo) := by
  have hl : ((rows.take hi).drop lo).length = hi - lo := by rw [List.length_drop, List.length_take, Nat.min_eq_left h2]
  refine ⟨_, cap', by rw [hl], by omega, fun hp => ?_⟩
  obtain ⟨b', off', e, hlt, hcell⟩ := h.parts (by omega)
  simp only [Option.some.injEq, Addr.mk.injEq, and_true] at e
  obtain ⟨rfl, rfl⟩ := e
  refine ⟨b, off + lo * c, rfl, hlt, fun i hi' j hj => ?_⟩
  rw [hl] at hi'
  have := hcell (lo + i) (by omega) j hj
  have e2 : off + lo * c + i * c + j = off + (lo + i) * c + j := by rw [Nat.add_mul]; omega
  rw [e2, this]
  simp
theorem slice_lo {t e : TypeId} (ht : Try.prog.underlying t = some (.slice (Try.prog.elem t))) (he : Try.prog.elem t = e) (c : Nat) (hs : ∀ W, (sizeOf e).run Try.prog W = .ok c W) {w : World} {v : Value} {rows : List (List Value)} (h : ReadRow w v c rows) (A : Nat) (hA : A ≤ rows.length) :
    ∃ vs, (∀ W, (Instr.slice t v (some (.int .i64 (A : Int))) none none).run Try.prog W = .ok vs W) ∧ ReadRow w vs c (rows.drop A) := by
  obtain ⟨a, cap, rfl, hle, hc⟩ := h
  refine ⟨sliced a A rows.length cap c, fun W => ?_, ?_⟩
  · rw [run_slice_l W t a rows.length cap ht .i64 (A : Int) (by omega) (by omega), he, hs]
    simp [Result.andThen]
  · unfold sliced
    have hl : (rows.drop A).length = rows.length - A := List.length_drop
    by_cases hcA : cap = A
    · have : rows.drop A = [] := List.drop_eq_nil_of_le (by omega)
      rw [this, if_pos hcA]
      exact ⟨a, cap - A, by simp; omega, by simp, fun hp => by simp at hp⟩
    · rw [if_neg hcA]
      refine ⟨_, cap - A, by rw [hl], by omega, fun hp => ?_⟩
      obtain ⟨b, off, rfl, hlt, hcell⟩ := hc (by omega)
      refine ⟨b, off + A * c, by simp [add_none], hlt, fun i hi j hj => ?_⟩
      rw [hl] at hi
      have := hcell (A + i) (by omega) j hj
      rw [Nat.add_mul, ← Nat.add_assoc] at this
      rw [this]
      simp
theorem slice_hi {t e : TypeId} (ht : Try.prog.underlying t = some (.slice (Try.prog.elem t))) (he : Try.prog.elem t = e) (c : Nat) (hs : ∀ W, (sizeOf e).run Try.prog W = .ok c W) {w : World} {v : Value} {rows : List (List Value)} (h : ReadRow w v c rows) (A : Nat) (hA : A ≤ rows.length) :
    ∃ vs, (∀ W, (Instr.slice t v none (some (.int .i64 (A : Int))) none).run Try.prog W = .ok vs W) ∧ ReadRow w vs c (rows.take A) := by
  obtain ⟨a, cap, rfl, hle, hc⟩ := h
  refine ⟨sliced a 0 A cap c, fun W => ?_, ?_⟩
  · rw [run_slice_h W t a rows.length cap ht .i64 (A : Int) (by omega) (by omega), he, hs]
    simp [Result.andThen]
  · unfold sliced
    have hl : (rows.take A).length = A := by rw [List.length_take]; omega
    refine ⟨_, cap, by rw [hl]; simp; rfl, by omega, fun hp => ?_⟩
    obtain ⟨b, off, rfl, hlt, hcell⟩ := hc (by omega)
    refine ⟨b, off, ?_, hlt, fun i hi j hj => ?_⟩
    · simp [add_none]
    · rw [hl] at hi
      rw [hcell i (by omega) j hj]
      simp
end Go.Proofs.Ytdlaepfnogmebaa
