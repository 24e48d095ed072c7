/- Flat of package group. No condition but lengths. Keys that are structs: questions, and members of sets. No condition but lengths. -/
import Derived.Test.YtdlaepfnogmebaaGrp3
import Derived.Deep.RegionLaw
import Derived.DeepKeys4
namespace Go.Proofs.Ytdlaepfnogmebaa
open Go.RowKit

/-- A call that answers records. -/
def RecsEnd (w : World) (l : List Rec) (e : Ending) (w' : World) : Prop := ∃ v, e = .returned v ∧ ReadRow w' v 5 (l.map recL8) ∧ Keeps w w'
theorem RecsEnd.mk {w w' : World} {l : List Rec} {v : Value} (h : ReadRow w' v 5 (l.map recL8)) (k : Keeps w w') : RecsEnd w l (.returned v) w' := ⟨v, rfl, h, k⟩
theorem recL8_ones (r : Rec) : ∀ u ∈ recL8 r, u.oneCell' = true := by
  intro u hu
  simp only [recL8, List.mem_cons, List.not_mem_nil, or_false] at hu
  rcases hu with rfl | rfl | rfl | rfl | rfl <;> rfl

/-- 'l = append(l, x)', x a struct of c cells, as one step of a region that draws. -/
theorem step_appR (ty sty : TypeId) (c bytes : Nat) (z : Value) {w : World} {ops : Array Oper} {o : Oper} {a : Act} {K : Act → World → Prop} {Q : Exit → Act → World → Prop} {E : Prop}
    (hu : Try.prog.underlying sty = some (.slice ty)) (hinfo : (Try.prog.info? ty).map (fun i => (i.zero, i.size, i.bytes)) = some (some z, c, bytes)) (hz : z.cells.size = c) (hc0 : 0 < c)
    (hgd : o.guard = none) (s x : Operand)
    (ho : o.op = .call { callee := .builtin .append, args := #[s, x], argTypes := #[sty, sty] })
    (B : Nat) (v : Value) (l : List (List Value)) (hs : a.eval s = v) (hown : OwnsR w B ty c v l) (ad : Addr) (cp : Nat) (b : List Value) (hx : a.eval x = .slice (some ad) 1 cp)
    (hb : b.length = c) (hone : ∀ u ∈ b, u.oneCell' = true)
    (hcell : ∀ j u, b[j]? = some u → w.cell? (ad.add j) = some u) (hlen : l.length + 1 ≤ maxLen) (hbytes : (l.length + 1) * bytes ≤ 140737488355328) (hB : B ≤ w.heap.size)
    (h : ∀ v' w', OwnsR w' B ty c v' (l ++ [b]) → Below B w w' → K (a.put o.dst v') w') :
    if Region.wanted o (yielded ops a.tmps) = true then Oper.wp Try.prog o a w K Q else E := by
  have hw : Region.wanted o (yielded ops a.tmps) = true := by simp [Region.wanted, hgd]
  rw [if_pos hw]
  obtain ⟨i0, hi, hz0, hz1, hz2⟩ := info_parts hinfo
  refine wp_append_own w s x sty ho B ty i0 z c bytes hu hi hz0 hz1 hz2 hz hc0 v l.length l.flatten hs hown.1 ad 1 cp b hx (by omega) hcell hone hlen hbytes hB ?_
  intro v' w' h2 h3 _
  refine h v' w' ⟨?_, ?_⟩ (Below.grown (Below.refl _ _) h3 hB fun k hk => (World.ownsRow.lt hown.1 k hk).1)
  · rw [List.length_append, List.flatten_append]
    simpa using h2
  · intro r hr
    rw [List.mem_append] at hr
    rcases hr with hr | hr
    · exact hown.2 r hr
    · simp at hr; subst hr; exact hb

/-- How far Flat has come. -/
def FlatRel (w : World) (s : St) (ttl : Int) (tn G H : Nat) (a : Option Addr) (cap : Nat) (v i : Value) (wr : World) : Prop :=
  ∃ j : Nat, j ≤ s.ds.length ∧ i = .int .i64 j ∧ OwnsR wr H 161 5 v ((((turned s.ds tn).take j).map (oneM s.key ttl)).map recL8) ∧ Blk wr G #[.string s.key.n, .int .i64 s.key.t, .int .i64 s.key.c, .slice a s.ds.length cap, .int .i64 s.ttl] 35 ∧ Keeps w wr ∧ H ≤ wr.heap.size
theorem turned_step (l : List (List UInt8)) (t j k : Nat) (hj : j < l.length) (hk : (t % l.length + j) % l.length = k) (hkl : k < l.length) : (turned l t).take (j + 1) = (turned l t).take j ++ [l[k]] := by
  have hj2 : j < (turned l t).length := by rw [turned_length]; exact hj
  rw [List.take_succ_eq_append_getElem hj2]
  congr 2
  have h := turned_get l t j hj
  rw [hk, List.getElem?_eq_getElem hj2, List.getElem?_eq_getElem hkl] at h
  exact Option.some.inj h

end Go.Proofs.Ytdlaepfnogmebaa

namespace Go.Proofs.Ytdlaepfnogmebaa
open Go.RowKit
open Go.Maps (Keyed)

theorem laidOutG : laidOutB Try.prog = true := by kernel_rfl
theorem lawQ : Keyed Try.prog 32 := Keyed.of_law (Go.deep_law_laid laidOutG (m := 8) (by decide) (of_decide_eq_true (by kernel_rfl)) (by kernel_rfl) (by kernel_rfl))
def memV (p : Int × List UInt8) : Value := .agg #[.int .i64 p.1, sv p.2]
theorem memV_inj (x y : Int × List UInt8) (h : memV x = memV y) : x = y := by
  obtain ⟨a, b⟩ := x
  obtain ⟨c, d⟩ := y
  simpa [memV, sv] using h
theorem qnV_inj (x y : Qn) (h : qnV x = qnV y) : x = y := by
  obtain ⟨a, b, c⟩ := x
  obtain ⟨d, e, f⟩ := y
  simpa [qnV] using h
theorem keyTQ : Try.prog.keyType 32 = true := by kernel_rfl
theorem keyQ (q : Qn) (hn : q.n.size ≤ maxLen) (ht : -9223372036854775808 ≤ q.t ∧ q.t ≤ 9223372036854775807) (hc : -9223372036854775808 ≤ q.c ∧ q.c ≤ 9223372036854775807) : ∃ kl, keyOf Try.prog 32 (qnV q) = some kl := by
  have w1 : (Lit.int .i64 q.t).wf = true := WalkArith.wf_i64 (by omega)
  have w2 : (Lit.int .i64 q.c).wf = true := WalkArith.wf_i64 (by omega)
  have hfm : Value.formed Try.prog 32 (qnV q) = true := by
    unfold qnV Value.formed
    rw [Try.underlying32]
    have hC : Try.prog.cellsOf 32 = 3 := by kernel_rfl
    simp [hC]
  obtain ⟨m, hm⟩ : ∃ m, Try.prog.types.size = m + 1 := ⟨Try.prog.types.size - 1, by kernel_rfl⟩
  unfold keyOf
  rw [Try.underlying32]
  simp only [keyTQ, hfm, Bool.and_self, if_true]
  rw [hm]
  have hC : Try.prog.cellsOf 32 = 3 := by kernel_rfl
  have hC1 : Try.prog.cellsOf 9 = 1 := by kernel_rfl
  have hC2 : Try.prog.cellsOf 3 = 1 := by kernel_rfl
  unfold Program.keyLits
  rw [Try.underlying32]
  simp only [qnV, Value.cells, hC]
  simp [hC1, hC2, Program.keyLits, Try.underlying9, Try.underlying3, hn, w1, w2]
/-! ### Sets that a call itself makes -/
def stL (s : St) (vd : Value) : List Value := [.string s.key.n, .int .i64 s.key.t, .int .i64 s.key.c, vd, .int .i64 s.ttl]
def stR (x : St × Value) : List Value := stL x.1 x.2
theorem infoSet : (Try.prog.info? 35).map (fun i => (i.zero, i.size, i.bytes)) = some (some (.agg #[.string ⟨#[]⟩, .int .i64 0, .int .i64 0, .slice none 0 0, .int .i64 0]), 5, 64) := by kernel_rfl
/-- The slice v, in blocks from B on, holds these sets; each one's data lie in a block of their own. -/
structure SetsOwn (w : World) (B : Nat) (v : Value) (ss : List (St × Value)) : Prop where
  row : OwnsR w B 35 5 v (ss.map stR)
  ds : ∀ x ∈ ss, OwnsS w B x.2 x.1.ds
  apart : ∀ i j (hi : i < ss.length) (hj : j < ss.length), i ≠ j → ∀ g, ss[i].2.ownBlock = some g → ss[j].2.ownBlock ≠ some g
/-- The slice v reads as these sets. -/
def SetsAt (w : World) (v : Value) (l : List St) : Prop := ∃ ss : List (St × Value), ss.map (·.1) = l ∧ ReadRow w v 5 (ss.map stR) ∧ ∀ x ∈ ss, ReadS w x.2 x.1.ds
theorem SetsOwn.read {w : World} {B : Nat} {v : Value} {ss : List (St × Value)} (h : SetsOwn w B v ss) : SetsAt w v (ss.map (·.1)) := ⟨ss, rfl, h.row.read, fun x hx => (h.ds x hx).read⟩
theorem SetsOwn.below {w w' : World} {B : Nat} {v : Value} {ss : List (St × Value)} (h : SetsOwn w B v ss) (k : Keeps w w') : SetsOwn w' B v ss := ⟨h.row.below k, fun x hx => (h.ds x hx).below k, h.apart⟩
theorem SetsOwn.nil (w : World) (B : Nat) : SetsOwn w B (.slice none 0 0) [] := ⟨OwnsR.nil _ _ _ _, by simp, fun i j hi => by simp at hi⟩
end Go.Proofs.Ytdlaepfnogmebaa
