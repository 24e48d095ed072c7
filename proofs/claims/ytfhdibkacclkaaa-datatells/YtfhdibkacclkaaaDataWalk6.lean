/- What Check, Names, Low of layer 5 answer, for every input. -/
import Derived.Test.YtfhdibkacclkaaaDataWalk5
import Derived.Test.YtfhdibkacclkaaaStrSet
import Derived.Test.YtfhdibkacclkaaaNameWalk3
namespace Go.Proofs.Ytfhdibkacclkaaa
open Go.RowKit

set_option maxHeartbeats 1000000 in
theorem dcheck_any (k : Int) (d : ByteArray) (w : World) (hm : d.size ≤ maxLen) :
    Calls Try.prog 11 #[.int .i64 k, .string d] w fun e w' => e = .returned (.bool (Dt.checkB k (bl d))) ∧ Keeps w w' := by
  have hE : Dt.checkB k (bl d) = (Dt.wholeL k (bl d)).isSome := rfl
  rw [hE]
  clear hE
  have HS := hide (fun W => splitWhole_any k d W hm)
  generalize Dt.wholeL k (bl d) = R at *
  go_enter Try.func11, Try.ntmps11
  go_wp2_with fail
  refine (HS.out _).mono ?_
  rintro e w1 ⟨v, rfl, k1, hno, hyes⟩
  rcases Option.eq_none_or_eq_some R with hr | ⟨x, hr⟩
  · rw [hno hr]
    unfold noPt
    clear hr hno hyes
    go_wp2
    go_ret
    exact ⟨rfl, k1.alloc _⟩
  · obtain ⟨u, hv, hown⟩ := hyes x hr
    subst hv
    obtain ⟨ua, uc, rfl⟩ := hown.read.len
    clear hr hno hyes hown
    generalize (⟨x.a.toArray⟩ : ByteArray) = A at *
    generalize (⟨x.b.toArray⟩ : ByteArray) = C at *
    go_wp2
    go_ret
    exact ⟨rfl, k1.alloc _⟩

/-- What comes of Names. -/
def NamesEnd (w : World) (ns : List (List UInt8)) (e : Ending) (w' : World) : Prop := ∃ v, e = .returned v ∧ OwnsS w' w.heap.size v ns ∧ Keeps w w'
theorem NamesEnd.mk {w w' : World} {ns : List (List UInt8)} {v : Value} (h : OwnsS w' w.heap.size v ns) (k : Keeps w w') : NamesEnd w ns (.returned v) w' := ⟨v, rfl, h, k⟩
theorem namesL_none {k : Int} {d : List UInt8} (h : Dt.wholeL k d = none) : Dt.namesL k d = [] := by rw [Dt.namesL, h]
theorem namesL_some {k : Int} {d : List UInt8} {x : Dt.Pt} (h : Dt.wholeL k d = some x) : Dt.namesL k d = x.ns := by rw [Dt.namesL, h]

set_option maxHeartbeats 1000000 in
theorem dnames_any (k : Int) (d : ByteArray) (w : World) (hm : d.size ≤ maxLen) :
    Calls Try.prog 14 #[.int .i64 k, .string d] w fun e w' => NamesEnd w (Dt.namesL k (bl d)) e w' := by
  have HS := hide (fun W => splitWhole_any k d W hm)
  have HE1 := hide (fun h => namesL_none (k := k) (d := bl d) h)
  have HE2 := hide (fun x h => namesL_some (k := k) (d := bl d) (x := x) h)
  generalize Dt.wholeL k (bl d) = R at *
  generalize Dt.namesL k (bl d) = E at *
  go_enter Try.func14, Try.ntmps14
  go_wp2_with fail
  refine (HS.out _).mono ?_
  rintro e w1 ⟨v, rfl, k1, hno, hyes⟩
  rcases Option.eq_none_or_eq_some R with hr | ⟨x, hr⟩
  · rw [hno hr]
    unfold noPt
    have HF := hide (HE1.out hr)
    clear hr hno hyes HE1 HE2
    generalize R.isSome = b at *
    go_wp2
    go_ret
    exact NamesEnd.mk (by rw [HF.out]; exact OwnsS.nil _ _) (k1.alloc _)
  · obtain ⟨u, hv, hown⟩ := hyes x hr
    subst hv
    obtain ⟨ua, uc, rfl⟩ := hown.read.len
    have HF := hide (HE2.out x hr)
    clear hr hno hyes HE1 HE2
    generalize (⟨x.a.toArray⟩ : ByteArray) = A at *
    generalize (⟨x.b.toArray⟩ : ByteArray) = C at *
    generalize R.isSome = b at *
    go_wp2
    go_ret
    exact NamesEnd.mk (by rw [HF.out]; exact hown.alloc _) (k1.alloc _)

/-- The names, the first j of them in small letters. -/
def halfN (ls : List (List UInt8)) (j : Nat) : List (List UInt8) := (ls.take j).map Nm.lowL ++ ls.drop j
theorem halfN_len (ls : List (List UInt8)) (j : Nat) : (halfN ls j).length = ls.length := by
  unfold halfN; rw [List.length_append, List.length_map, List.length_take, List.length_drop]; omega
theorem halfN_zero (ls : List (List UInt8)) : halfN ls 0 = ls := rfl
theorem halfN_all (ls : List (List UInt8)) (j : Nat) (h : ls.length ≤ j) : halfN ls j = ls.map Nm.lowL := by
  unfold halfN; rw [List.take_of_length_le h, List.drop_of_length_le h, List.append_nil]
theorem halfN_get (ls : List (List UInt8)) (j : Nat) (h : j < ls.length) : (halfN ls j)[j]? = some ls[j] := by
  unfold halfN
  rw [List.getElem?_append_right (by rw [List.length_map, List.length_take]; omega), List.length_map, List.length_take, show j - min j ls.length = 0 by omega]
  rw [List.getElem?_drop]
  simp [h]
theorem halfN_set (ls : List (List UInt8)) (j : Nat) (h : j < ls.length) : (halfN ls j).set j (Nm.lowL ls[j]) = halfN ls (j + 1) := by
  unfold halfN
  have hl : ((ls.take j).map Nm.lowL).length = j := by rw [List.length_map, List.length_take]; omega
  rw [List.set_append_right _ _ (by omega), hl, Nat.sub_self, List.drop_eq_getElem_cons h, List.set_cons_zero]
  rw [List.take_succ_eq_append_getElem h, List.map_append]
  simp

theorem lowD_none {k : Int} {d : List UInt8} (h : Dt.wholeL k d = none) : Dt.lowD k d = [] := by rw [Dt.lowD, h]
theorem lowD_some {k : Int} {d : List UInt8} {x : Dt.Pt} (h : Dt.wholeL k d = some x) : Dt.lowD k d = x.low.join := by rw [Dt.lowD, h]; rfl
theorem low_of (k : Int) (d : List UInt8) {w w' : World} {v : Value} (hno : Dt.wholeL k d = none → v = noPt) (hyes : ∀ x, Dt.wholeL k d = some x → PtOwn w' w.heap.size v x) :
    ∃ x : Dt.Pt, PtOwn w' w.heap.size v x ∧ Dt.lowD k d = x.low.join ∧ x.ns.length ≤ 2 ∧ (∀ m ∈ x.ns, Nm.okL m = true) ∧ x.join.length ≤ 65535 := by
  rcases Option.eq_none_or_eq_some (Dt.wholeL k d) with hr | ⟨x, hr⟩
  · refine ⟨⟨[], [], []⟩, ?_, lowD_none hr, by simp, by simp, by simp [Dt.Pt.join]⟩
    rw [hno hr]
    exact PtOwn.mk ⟨#[]⟩ ⟨#[]⟩ rfl rfl (OwnsS.nil _ _)
  · have h := Dt.whole_names hr
    exact ⟨x, hyes x hr, lowD_some hr, h.1, h.2.1, by rw [(Dt.wholeL_join hr).1]; exact h.2.2⟩
/-- The cells of data that was boxed in block G. -/
def Box3 (G : Nat) (p q r : Value) (w : World) : Prop := w.cell? ⟨G, 0, none⟩ = some p ∧ w.cell? ⟨G, 1, none⟩ = some q ∧ w.cell? ⟨G, 2, none⟩ = some r ∧ G < w.heap.size
theorem Box3.keeps {G : Nat} {p q r : Value} {w w' : World} (h : Box3 G p q r w) (hk : Keeps w w') : Box3 G p q r w' :=
  ⟨(hk.cell (p := ⟨G, 0, none⟩) h.2.2.2).trans h.1, (hk.cell (p := ⟨G, 1, none⟩) h.2.2.2).trans h.2.1, (hk.cell (p := ⟨G, 2, none⟩) h.2.2.2).trans h.2.2.1, Nat.lt_of_lt_of_le h.2.2.2 hk.size⟩
theorem Box3.made (w : World) (p q r : Value) (t : TypeId) : Box3 w.heap.size p q r (w.alloc (.cells #[p, q, r] t)) := by
  refine ⟨?_, ?_, ?_, by simp⟩
  · exact (World.cell?_alloc_mark w _ _ (0, 0) 0).trans rfl
  · exact (World.cell?_alloc_mark w _ _ (0, 0) 1).trans rfl
  · exact (World.cell?_alloc_mark w _ _ (0, 0) 2).trans rfl
theorem Box3.other {G : Nat} {p q r : Value} {w : World} (h : Box3 G p q r w) (a : Addr) (ha : a.block ≠ G) (u : Value) : Box3 G p q r (w.setCell a u) := by
  have e : ∀ i, (w.setCell a u).cell? ⟨G, i, none⟩ = w.cell? ⟨G, i, none⟩ := fun i => World.cell?_setCell_other w a ⟨G, i, none⟩ u (fun h => ha (congrArg Addr.block h))
  exact ⟨(e 0).trans h.1, (e 1).trans h.2.1, (e 2).trans h.2.2.1, by simpa using h.2.2.2⟩
def LwRel (w : World) (G : Nat) (p q r : Value) (ns : List (List UInt8)) (i : Value) (wr : World) : Prop :=
  ∃ j : Nat, j ≤ ns.length ∧ i = .int .i64 j ∧ OwnsS wr w.heap.size q (halfN ns j) ∧ Box3 G p q r wr ∧ Below w.heap.size w wr
theorem LwRel.mk {w wr : World} {G : Nat} {p q r : Value} {ns : List (List UInt8)} (j : Nat) (h1 : j ≤ ns.length) (h2 : OwnsS wr w.heap.size q (halfN ns j)) (h3 : Box3 G p q r wr) (h4 : Below w.heap.size w wr) : LwRel w G p q r ns (.int .i64 j) wr := ⟨j, h1, rfl, h2, h3, h4⟩

set_option maxHeartbeats 2000000 in
set_option maxRecDepth 100000 in
theorem dlow_any (k : Int) (d : ByteArray) (w : World) (hm : d.size ≤ maxLen) :
    Calls Try.prog 16 #[.int .i64 k, .string d] w fun e w' => e = .returned (.string ⟨(Dt.lowD k (bl d)).toArray⟩) ∧ Keeps w w' := by
  go_enter Try.func16, Try.ntmps16
  go_wp2_with fail
  refine (splitWhole_any k d _ hm).mono ?_
  rintro e w1 ⟨v, rfl, k1, hno, hyes⟩
  obtain ⟨x, hx, hE, hl, hok, hj⟩ := low_of k (bl d) hno hyes
  have HE := hide hE
  have HOK := hide hok
  clear hno hyes hE hok
  generalize (Dt.wholeL k (bl d)).isSome = b at *
  obtain ⟨u, hv, hown⟩ := hx
  subst hv
  obtain ⟨ua, uc, rfl⟩ := hown.read.len
  generalize hxa : (⟨x.a.toArray⟩ : ByteArray) = A at *
  generalize hxb : (⟨x.b.toArray⟩ : ByteArray) = C at *
  have HA : Hid (bl A = x.a) := by unfold Hid; rw [← hxa]; exact bl_mk _
  have HC : Hid (bl C = x.b) := by unfold Hid; rw [← hxb]; exact bl_mk _
  clear hxa hxb
  go_wp2_with fail
  have hB0 := Box3.made w1 (.string A) (.slice ua x.ns.length uc) (.string C) 40
  have hown1 := hown.alloc (.cells #[.string A, .slice ua x.ns.length uc, .string C] 40)
  have k2 := k1.alloc (.cells #[.string A, .slice ua x.ns.length uc, .string C] 40)
  have hgG : ∀ g, Value.ownBlock (.slice ua x.ns.length uc) = some g → g < w1.heap.size := fun g hg => (World.ownsRow.lt hown g hg).2
  generalize w1.alloc (.cells #[.string A, .slice ua x.ns.length uc, .string C] 40) = W at *
  have HG := hide hgG
  clear hown hgG k1
  generalize w1.heap.size = G at *
  go_loopw [18] (fun i wr => LwRel w G (.string A) (.slice ua x.ns.length uc) (.string C) x.ns i wr) (fun i _ => x.ns.length - (intOf i).toNat)
  case atStart => exact LwRel.mk 0 (by omega) hown1 hB0 k2
  case round =>
    clear hown1 hB0 k2
    obtain ⟨j, hjn, rfl, hown, hbox, hbel⟩ := hrel
    by_cases hlt : j < x.ns.length
    · obtain ⟨g, cap, hv⟩ := hown.shape (by rw [halfN_len]; omega)
      rw [halfN_len] at hv
      simp only [Value.slice.injEq, true_and] at hv
      obtain ⟨rfl, rfl⟩ := hv
      have hgl : g < G := HG.out g rfl
      obtain ⟨X, hX⟩ : ∃ X : ByteArray, bl X = x.ns[j] := ⟨⟨x.ns[j].toArray⟩, bl_mk _⟩
      have hXo : Nm.okL (bl X) = true := by rw [hX]; exact HOK.out _ (List.getElem_mem hlt)
      have hXs : X.size ≤ maxLen := by
        have := (Dt.ok_len hXo).2
        rw [bl_length] at this
        unfold maxLen; omega
      have HL : Hid (lowS X = ⟨(Nm.lowL (bl X)).toArray⟩) := if_pos hXo
      obtain ⟨hc, hf, hg⟩ := hown.at (halfN_len x.ns j) j hlt _ (halfN_get x.ns j hlt)
      rw [← hX, sv_bl] at hc
      have HS : Hid ((halfN x.ns j).set j (Nm.lowL (bl X)) = halfN x.ns (j + 1)) := by unfold Hid; rw [hX]; exact halfN_set x.ns j hlt
      have i1 : (j : Int) < (x.ns.length : Int) := by omega
      obtain ⟨b0, b1, b2, b3⟩ := hbox
      clear hX hXo
      go_wp2_with fail
      have i0 : (0 : Int) ≤ (j : Int) := by omega
      have T1 : Box3 G (.string A) (.slice (some ⟨g, 0, none⟩) x.ns.length uc) (.string C) wr.drew := ⟨b0, b1, b2, b3⟩
      have hg2 := World.block_lt_of_cell? wr _ hc
      have HK : Hid (∀ w3, Keeps wr.drew w3 → w3.cell? ⟨g, j, none⟩ = some (.string X) ∧ w3.frozen? ⟨g, j, none⟩ = false) := fun w3 k3 => ⟨(Below.cell k3 (p := ⟨g, j, none⟩) hg2).trans hc, (Below.frozen k3 (p := ⟨g, j, none⟩) hg2).trans hf⟩
      go_region_held3 (fun w' => w'.cell? ⟨G, 0, none⟩ = some (.string A) ∧ w'.cell? ⟨G, 1, none⟩ = some (.slice (some ⟨g, 0, none⟩) x.ns.length uc) ∧ w'.cell? ⟨G, 2, none⟩ = some (.string C) ∧ G < w'.heap.size) ((first | exact T1 | exact Box3.keeps T1 (by assumption) | exact Box3.other (Box3.keeps T1 (by assumption)) _ (Nat.ne_of_lt hgl) _)) ((go_at_call 29; refine (low_any _ _ hXs).mono ?_; rintro e w3 ⟨rfl, k3⟩; obtain ⟨hc3, hf3⟩ := HK.out w3 k3))
      have hown2 := ((OwnsS.drew hown).below k3).set (halfN_len x.ns j) j (Nm.lowL (bl X))
      rw [HS.out] at hown2
      have hsv : sv (Nm.lowL (bl X)) = .string (lowS X) := by rw [HL.out]; rfl
      rw [hsv] at hown2
      have hbox2 := Box3.other (Box3.keeps T1 k3) ⟨g, j, none⟩ (Nat.ne_of_lt hgl) (.string (lowS X))
      have hbel2 : Keeps w w3 := Keeps.trans (Keeps.drew hbel) k3
      have HO2 := hide hown2
      clear hown2 hown hsv HK hc hf
      go_wp2
      go_roundw
      case rel => exact LwRel.mk (j + 1) (by omega) HO2.out hbox2 (hbel2.setCell hg _)
      case measure => simp [intOf]; omega
    · rw [halfN_all x.ns j (by omega)] at hown
      have hrd := hown.read
      have hlow : x.low.join.length ≤ 65535 := by rw [Dt.low_length]; exact hj
      have hln : x.low.ns.length ≤ 1000000 := by simp only [Dt.Pt.low, List.length_map]; omega
      have i1 : ¬ (j : Int) < (x.ns.length : Int) := by omega
      obtain ⟨b0, b1, b2, b3⟩ := hbox
      clear hown
      go_wp2_with fail
      refine (join_any _ x.low _ (PtAt.mk (x := x.low) A C HA.out HC.out hrd) hln (by omega)).mono ?_
      rintro e w4 ⟨rfl, k4⟩
      go_wp2
      go_ret
      exact ⟨ret_str (by rw [HE.out]; rfl), Keeps.trans hbel k4⟩
end Go.Proofs.Ytfhdibkacclkaaa
