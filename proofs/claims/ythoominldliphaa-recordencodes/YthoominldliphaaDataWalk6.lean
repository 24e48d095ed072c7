/- What Check, Names, Low of layer 5 answer, for every input. -/
import Derived.Test.YthoominldliphaaDataWalk5
import Derived.Test.YthoominldliphaaStrSet
import Derived.Test.YthoominldliphaaNameWalk3
namespace Go.Proofs.Ythoominldliphaa
open Go.RowKit

set_option maxHeartbeats 1000000 in
theorem dcheck_any (k : Int) (d : ByteArray) (w : World) (hm : d.size ≤ maxLen) :
    Calls Try.prog 30 #[.int .i64 k, .string d] w fun e w' => e = .returned (.bool (Dt.checkB k (bl d))) ∧ Keeps w w' := by
  have hE : Dt.checkB k (bl d) = (Dt.wholeL k (bl d)).isSome := rfl
  rw [hE]
  clear hE
  have HS := hide (fun W => splitWhole_any k d W hm)
  generalize Dt.wholeL k (bl d) = R at *
  go_enter Try.func30, Try.ntmps30
  go_wp2_with fail
  refine (HS.out _).mono ?_
  rintro e w1 ⟨v, rfl, k1, hno, hyes⟩
  rcases Option.eq_none_or_eq_some R with hr | ⟨x, hr⟩
  · rw [hno hr]
    unfold noPt
    clear hr hno hyes
    go_wp2
    go_ret
    exact ⟨rfl, k1.alloc _⟩
  · obtain ⟨u, hv, hown⟩ := hyes x hr
    subst hv
    obtain ⟨ua, uc, rfl⟩ := hown.read.len
    clear hr hno hyes hown
    generalize (⟨x.a.toArray⟩ : ByteArray) = A at *
    generalize (⟨x.b.toArray⟩ : ByteArray) = C at *
    go_wp2
    go_ret
    exact ⟨rfl, k1.alloc _⟩

/-- What comes of Names. -/
def NamesEnd (w : World) (ns : List (List UInt8)) (e : Ending) (w' : World) : Prop := ∃ v, e = .returned v ∧ OwnsS w' w.heap.size v ns ∧ Keeps w w'
theorem NamesEnd.mk {w w' : World} {ns : List (List UInt8)} {v : Value} (h : OwnsS w' w.heap.size v ns) (k : Keeps w w') : NamesEnd w ns (.returned v) w' := ⟨v, rfl, h, k⟩
theorem namesL_none {k : Int} {d : List UInt8} (h : Dt.wholeL k d = none) : Dt.namesL k d = [] := by rw [Dt.namesL, h]
theorem namesL_some {k : Int} {d : List UInt8} {x : Dt.Pt} (h : Dt.wholeL k d = some x) : Dt.namesL k d = x.ns := by rw [Dt.namesL, h]

/-- The names, the first j of them in small letters. -/
def halfN (ls : List (List UInt8)) (j : Nat) : List (List UInt8) := (ls.take j).map Nm.lowL ++ ls.drop j
theorem halfN_len (ls : List (List UInt8)) (j : Nat) : (halfN ls j).length = ls.length := by
  unfold halfN; rw [List.length_append, List.length_map, List.length_take, List.length_drop]; omega
theorem halfN_zero (ls : List (List UInt8)) : halfN ls 0 = ls := rfl
theorem halfN_all (ls : List (List UInt8)) (j : Nat) (h : ls.length ≤ j) : halfN ls j = ls.map Nm.lowL := by
  unfold halfN; rw [List.take_of_length_le h, List.drop_of_length_le h, List.append_nil]
theorem halfN_get (ls : List (List UInt8)) (j : Nat) (h : j < ls.length) : (halfN ls j)[j]? = some ls[j] := by
  unfold halfN
  rw [List.getElem?_append_right (by rw [List.length_map, List.length_take]; omega), List.length_map, List.length_take, show j - min j ls.length = 0 by omega]
  rw [List.getElem?_drop]
  simp [h]
theorem halfN_set (ls : List (List UInt8)) (j : Nat) (h : j < ls.length) : (halfN ls j).set j (Nm.lowL ls[j]) = halfN ls (j + 1) := by
  unfold halfN
  have hl : ((ls.take j).map Nm.lowL).length = j := by rw [List.length_map, List.length_take]; omega
  rw [List.set_append_right _ _ (by omega), hl, Nat.sub_self, List.drop_eq_getElem_cons h, List.set_cons_zero]
  rw [List.take_succ_eq_append_getElem h, List.map_append]
  simp

theorem lowD_none {k : Int} {d : List UInt8} (h : Dt.wholeL k d = none) : Dt.lowD k d = [] := by rw [Dt.lowD, h]
theorem lowD_some {k : Int} {d : List UInt8} {x : Dt.Pt} (h : Dt.wholeL k d = some x) : Dt.lowD k d = x.low.join := by rw [Dt.lowD, h]; rfl
theorem low_of (k : Int) (d : List UInt8) {w w' : World} {v : Value} (hno : Dt.wholeL k d = none → v = noPt) (hyes : ∀ x, Dt.wholeL k d = some x → PtOwn w' w.heap.size v x) :
    ∃ x : Dt.Pt, PtOwn w' w.heap.size v x ∧ Dt.lowD k d = x.low.join ∧ x.ns.length ≤ 2 ∧ (∀ m ∈ x.ns, Nm.okL m = true) ∧ x.join.length ≤ 65535 := by
  rcases Option.eq_none_or_eq_some (Dt.wholeL k d) with hr | ⟨x, hr⟩
  · refine ⟨⟨[], [], []⟩, ?_, lowD_none hr, by simp, by simp, by simp [Dt.Pt.join]⟩
    rw [hno hr]
    exact PtOwn.mk ⟨#[]⟩ ⟨#[]⟩ rfl rfl (OwnsS.nil _ _)
  · have h := Dt.whole_names hr
    exact ⟨x, hyes x hr, lowD_some hr, h.1, h.2.1, by rw [(Dt.wholeL_join hr).1]; exact h.2.2⟩
/-- The cells of data that was boxed in block G. -/
def Box3 (G : Nat) (p q r : Value) (w : World) : Prop := w.cell? ⟨G, 0, none⟩ = some p ∧ w.cell? ⟨G, 1, none⟩ = some q ∧ w.cell? ⟨G, 2, none⟩ = some r ∧ G < w.heap.size
theorem Box3.keeps {G : Nat} {p q r : Value} {w w' : World} (h : Box3 G p q r w) (hk : Keeps w w') : Box3 G p q r w' :=
  ⟨(hk.cell (p := ⟨G, 0, none⟩) h.2.2.2).trans h.1, (hk.cell (p := ⟨G, 1, none⟩) h.2.2.2).trans h.2.1, (hk.cell (p := ⟨G, 2, none⟩) h.2.2.2).trans h.2.2.1, Nat.lt_of_lt_of_le h.2.2.2 hk.size⟩
theorem Box3.made (w : World) (p q r : Value) (t : TypeId) : Box3 w.heap.size p q r (w.alloc (.cells #[p, q, r] t)) := by
  refine ⟨?_, ?_, ?_, by simp⟩
  · exact (World.cell?_alloc_mark w _ _ (0, 0) 0).trans rfl
  · exact (World.cell?_alloc_mark w _ _ (0, 0) 1).trans rfl
  · exact (World.cell?_alloc_mark w _ _ (0, 0) 2).trans rfl
theorem Box3.other {G : Nat} {p q r : Value} {w : World} (h : Box3 G p q r w) (a : Addr) (ha : a.block ≠ G) (u : Value) : Box3 G p q r (w.setCell a u) := by
  have e : ∀ i, (w.setCell a u).cell? ⟨G, i, none⟩ = w.cell? ⟨G, i, none⟩ := fun i => World.cell?_setCell_other w a ⟨G, i, none⟩ u (fun h => ha (congrArg Addr.block h))
  exact ⟨(e 0).trans h.1, (e 1).trans h.2.1, (e 2).trans h.2.2.1, by simpa using h.2.2.2⟩
def LwRel (w : World) (G : Nat) (p q r : Value) (ns : List (List UInt8)) (i : Value) (wr : World) : Prop :=
  ∃ j : Nat, j ≤ ns.length ∧ i = .int .i64 j ∧ OwnsS wr w.heap.size q (halfN ns j) ∧ Box3 G p q r wr ∧ Below w.heap.size w wr
theorem LwRel.mk {w wr : World} {G : Nat} {p q r : Value} {ns : List (List UInt8)} (j : Nat) (h1 : j ≤ ns.length) (h2 : OwnsS wr w.heap.size q (halfN ns j)) (h3 : Box3 G p q r wr) (h4 : Below w.heap.size w wr) : LwRel w G p q r ns (.int .i64 j) wr := ⟨j, h1, rfl, h2, h3, h4⟩

end Go.Proofs.Ythoominldliphaa
