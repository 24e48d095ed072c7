/- How the two stores stand beside one another. (Made by tools/genscripts14.py.) -/
import Derived.Test.YtdlaepfnogmebaaStoT
import Derived.Test.YtdlaepfnogmebaaStoY
import Derived.Test.YtdlaepfnogmebaaStoL
namespace Go.Proofs.Ytdlaepfnogmebaa
open Go.RowKit

theorem Blk.c8 {w : World} {G : Nat} {u0 u1 u2 u3 u4 u5 u6 u7 : Value} {ty : TypeId} (h : Blk w G #[u0, u1, u2, u3, u4, u5, u6, u7] ty) :
    w.cell? ⟨G, 0, none⟩ = some u0 ∧ w.cell? ⟨G, 1, none⟩ = some u1 ∧ w.cell? ⟨G, 2, none⟩ = some u2 ∧ w.cell? ⟨G, 3, none⟩ = some u3 ∧ w.cell? ⟨G, 4, none⟩ = some u4 ∧ w.cell? ⟨G, 5, none⟩ = some u5 ∧ w.cell? ⟨G, 6, none⟩ = some u6 ∧ w.cell? ⟨G, 7, none⟩ = some u7 :=
  ⟨h.cell 0, h.cell 1, h.cell 2, h.cell 3, h.cell 4, h.cell 5, h.cell 6, h.cell 7⟩
/-- How the two stores stand, behind so many things that were done. -/
structure ScOk (w : World) (vp : Value) (p m KB LO : Nat) (j : Nat) (s : Sto) (v : Value) (zs : List (It × Value)) (wr : World) : Prop where
  sx : SX (fun g => g = KB) wr vp p m s
  kb : Blk wr KB #[.int .i64 s.room, v, .int .i64 s.changes] 29
  rd : ReadRow wr v 7 (zs.map itZ)
  it : itemsZ zs = s.items
  dz : ∀ z ∈ zs, ReadS w z.2 z.1.set.ds
  lo : ∀ a n c, v = .slice (some a) n c → LO ≤ a.block
  ch : s.changes ≤ j
  k : Keeps w wr
  sz : LO ≤ wr.heap.size
def ScR (w : World) (vp : Value) (p m KB LO : Nat) (j : Nat) (wr : World) : Prop := ∃ s v zs, ScOk w vp p m KB LO j s v zs wr
theorem ScOk.rm {w : World} {vp : Value} {p m KB LO j : Nat} {s : Sto} {v : Value} {zs : List (It × Value)} {wr : World} (h : ScOk w vp p m KB LO j s v zs wr) : s.room = 0 ∨ (1 ≤ s.room ∧ s.room ≤ 1000 ∧ (zs.length : Int) ≤ s.room) := by
  have h1 := h.sx.ok.2.1
  rw [← h.it] at h1
  unfold itemsZ at h1
  simpa using h1
theorem RTell.see2 {w : World} {zs : List (It × Value)} (hz : ∀ z ∈ zs, ReadS w z.2 z.1.set.ds) {oi : Option It} {vi : Value} (h : RTell zs oi vi) : ∃ x a n c, vi = itV x (.slice a n c) ∧ x = oi.getD noIt ∧ ReadS w (.slice a n c) x.set.ds := by
  cases oi with
  | none => exact ⟨noIt, none, 0, 0, h, rfl, ReadS.none⟩
  | some i =>
    obtain ⟨vd, rfl, hm⟩ := h
    have hr := hz _ hm
    obtain ⟨a, c, e⟩ := hr.len
    simp only at e hr
    rw [e] at hr
    exact ⟨i, a, _, c, by rw [e], rfl, hr⟩
theorem TellOk.see2 {w : World} {B : Nat} {oi : Option It} {vi : Value} (h : TellOk w B oi vi) : ∃ x a n c, vi = itV x (.slice a n c) ∧ x = oi.getD noIt ∧ OwnsR w B 9 1 (.slice a n c) (x.set.ds.map tv) := by
  cases oi with
  | none => exact ⟨noIt, none, 0, 0, h, rfl, OwnsR.nil _ _ _ _⟩
  | some i =>
    obtain ⟨vd, rfl, ho⟩ := h
    obtain ⟨a, c, rfl⟩ := ho.form
    exact ⟨i, a, _, c, rfl, rfl, ho⟩
theorem set3_size (W : World) (G : Nat) (u0 u1 u2 : Value) : (set3 W G u0 u1 u2).heap.size = W.heap.size := by simp [set3, World.setCell]
theorem ReadRow.set3 {w : World} {v : Value} {c : Nat} {rows : List (List Value)} (h : ReadRow w v c rows) {G : Nat} (hx : ∀ a k cp, v = .slice (some a) k cp → a.block ≠ G) (u0 u1 u2 : Value) : ReadRow (Go.Proofs.Ytdlaepfnogmebaa.set3 w G u0 u1 u2) v c rows :=
  ((h.setOther (x := ⟨G, 0, Option.none⟩) hx u0).setOther (x := ⟨G, 1, Option.none⟩) hx u1).setOther (x := ⟨G, 2, Option.none⟩) hx u2
theorem ScOk.fz {w : World} {vp : Value} {p m KB LO j : Nat} {s : Sto} {v : Value} {zs : List (It × Value)} {wr : World} (h : ScOk w vp p m KB LO j s v zs wr) : ∀ z ∈ zs, ∃ a n c, z.2 = .slice a n c := fun z hz => by
  obtain ⟨a, c, e⟩ := (h.dz z hz).len
  exact ⟨a, _, c, e⟩
theorem ScOk.keeps {w : World} {vp : Value} {p m KB LO j : Nat} {s : Sto} {v : Value} {zs : List (It × Value)} {wr w' : World} (h : ScOk w vp p m KB LO j s v zs wr) (k : Keeps wr w') : ScOk w vp p m KB LO j s v zs w' :=
  ⟨h.sx.keeps k, h.kb.keeps k, h.rd.keeps k, h.it, h.dz, h.lo, h.ch, h.k.trans k, Nat.le_trans h.sz k.size⟩
theorem ScOk.len {w : World} {vp : Value} {p m KB LO j : Nat} {s : Sto} {v : Value} {zs : List (It × Value)} {wr : World} (h : ScOk w vp p m KB LO j s v zs wr) : zs.length ≤ 1000 := by
  have h1 := h.sx.ok.2.2.2.2
  rw [← h.it] at h1
  unfold itemsZ at h1
  simpa using h1


theorem rNew_no (room : Int) (w : World) (h : room < 1 ∨ 1000 < room) :
    Calls Try.prog 13 #[.int .i64 room] w fun e w' => e = .returned (.agg #[.int .i64 0, .slice none 0 0, .int .i64 0]) ∧ Keeps w w' := by
  by_cases g1 : room < 1
  · exact rNew_low room w g1
  · exact rNew_high room w g1 (by omega)
end Go.Proofs.Ytdlaepfnogmebaa
