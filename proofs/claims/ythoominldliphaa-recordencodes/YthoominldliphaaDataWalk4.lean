/- What split of layer 5 answers, for every input. -/
import Derived.Test.YthoominldliphaaDataWalk3
namespace Go.Proofs.Ythoominldliphaa
open Go.RowKit

/-- What the map of shapes tells of a type. -/
def lookV (k : Int) : Value := match Dt.shp k with | some s => shV s false | none => shV ⟨0, 0, 0⟩ (k == 16)
def lookOk (k : Int) : Bool := (Dt.shp k).isSome || k == 16
def shKinds : List Int := [1, 2, 5, 6, 12, 15, 16, 28, 33]
theorem find_hit (k : Int) (hk : k ∈ shKinds) : ∃ i, Instr.findNow (.int .i64) (.int .i64 k) shEs.toList 0 = some (some (i, lookV k)) ∧ lookOk k = true := by
  simp only [shKinds, List.mem_cons, List.not_mem_nil, or_false] at hk
  rcases hk with rfl | rfl | rfl | rfl | rfl | rfl | rfl | rfl | rfl <;> exact ⟨_, rfl, rfl⟩
theorem find_miss (k : Int) (hk : k ∉ shKinds) : Instr.findNow (.int .i64) (.int .i64 k) shEs.toList 0 = some none ∧ lookOk k = false ∧ lookV k = shV ⟨0, 0, 0⟩ false ∧ Dt.shp k = none := by
  simp only [shKinds, List.mem_cons, List.not_mem_nil, or_false, not_or] at hk
  obtain ⟨h1, h2, h3, h4, h5, h6, h7, h8, h9⟩ := hk
  have hs : Dt.shp k = none := by simp [Dt.shp, h1, h2, h3, h4, h5, h6, h8, h9]
  have f : ∀ a : Int, ¬ k = a → (k == a) = false := fun a h => beq_eq_false_iff_ne.2 h
  refine ⟨?_, by simp only [lookOk, hs, f _ h7]; rfl, by simp only [lookV, hs, f _ h7], hs⟩
  simp only [shEs, Instr.findNow, Instr.sameNow, f _ h1, f _ h2, f _ h3, f _ h4, f _ h5, f _ h6, f _ h7, f _ h8, f _ h9, if_true]
theorem zero_shape (w : World) : (zeroValue 75).run Try.prog w = .ok (shV ⟨0, 0, 0⟩ false) w := by kernel_rfl
theorem look_any (w : World) (r : Nat) (k : Int) (h : w.heap[r]? = some (.map shEs 9)) :
    (Instr.lookup 77 (.map (some r)) (.int .i64 k) true).run Try.prog w = .ok (.tuple #[lookV k, .bool (lookOk k)]) w := by
  have hk : MapKept.IsKey (.int .i64) (.int .i64 k) := rfl
  by_cases hm : k ∈ shKinds
  · obtain ⟨i, h1, h2⟩ := find_hit k hm
    simp [Instr.lookup, run_underlying Try.underlying77, MapKept.run_getObj_map h, MapKept.run_checkKey Try.underlying3 hk, MapKept.run_findKey Try.underlying3 h1, h2, Result.andThen]
  · obtain ⟨h1, h2, h3, _⟩ := find_miss k hm
    simp [Instr.lookup, run_underlying Try.underlying77, MapKept.run_getObj_map h, MapKept.run_checkKey Try.underlying3 hk, MapKept.run_findKey Try.underlying3 h1, h2, h3, Result.andThen]
    rfl

theorem look2 (w : World) (o : Obj) (k : Int) :
    (Instr.lookup 77 (.map (some (w.heap.size + 1))) (.int .i64 k) true).run Try.prog ((w.alloc o).alloc (.map shEs 9)) = .ok (.tuple #[lookV k, .bool (lookOk k)]) ((w.alloc o).alloc (.map shEs 9)) :=
  look_any _ _ k (by have := heap_alloc_at (w.alloc o) (.map shEs 9); simpa using this)

/-- Block B: the three cells of data taken apart, of zero values, that may be written. -/
def Zero3 (B : Nat) (W : World) : Prop :=
  W.cell? ⟨B, 0, none⟩ = some (.string ⟨#[]⟩) ∧ W.cell? ⟨B, 1, none⟩ = some (.slice none 0 0) ∧ W.cell? ⟨B, 2, none⟩ = some (.string ⟨#[]⟩) ∧
  (W.frozen? ⟨B, 0, none⟩ = false ∧ W.frozen? ⟨B, 1, none⟩ = false ∧ W.frozen? ⟨B, 2, none⟩ = false) ∧ B < W.heap.size
theorem Zero3.below {B : Nat} {W W' : World} (h : Zero3 B W) (hb : Keeps W W') : Zero3 B W' := by
  obtain ⟨h2, h3, h4, ⟨h5, h6, h7⟩, h8⟩ := h
  obtain ⟨hc, hf⟩ := bcell hb
  exact ⟨(hc _ _ h8).trans h2, (hc _ _ h8).trans h3, (hc _ _ h8).trans h4, ⟨(hf _ _ h8).trans h5, (hf _ _ h8).trans h6, (hf _ _ h8).trans h7⟩, Nat.lt_of_lt_of_le h8 (Below.size hb)⟩
theorem Zero3.made (w : World) (t : TypeId) : Zero3 w.heap.size (w.alloc (.cells #[.string ⟨#[]⟩, .slice none 0 0, .string ⟨#[]⟩] t)) := by
  refine ⟨?_, ?_, ?_, ⟨?_, ?_, ?_⟩, ?_⟩ <;> go_simp

set_option maxHeartbeats 2000000 in
set_option maxRecDepth 100000 in
theorem split_big (m : ByteArray) (p n : Nat) (k : Int) (w : World) (hm : m.size ≤ maxLen) (h : p + n ≤ m.size) (hn : 65535 < n) :
    Calls Try.prog 40 #[.string m, .int .i64 p, .int .i64 n, .int .i64 k] w fun e w' => PtEnd w (Dt.splitL (bl m) p n k) e w' := by
  have hm' := hm
  unfold maxLen at hm'
  have HR : Hid (Dt.splitL (bl m) p n k = none) := if_pos hn
  have ho : Oct.takeOk m p n = true := by rw [takeOk_nat]; simpa using h
  go_enter Try.func40, Try.ntmps40
  go_wp2_with (go_at_call 38; refine (take_any _ _ _ _ hm (by omega)).mono ?_; rintro e w' ⟨rfl, rfl⟩)
  exact bodyPost_ret (v := .tuple #[noPt, .bool false]) (by simp [results, Try.results40, go_sem, noPt]) rfl (PtEnd.no HR.out ((Keeps.refl _).alloc _))

set_option maxHeartbeats 2000000 in
set_option maxRecDepth 100000 in
theorem split_shape (m : ByteArray) (p n : Nat) (k : Int) (s : Dt.Sh) (w : World) (hm : m.size ≤ maxLen) (h : p + n ≤ m.size) (hn : ¬ 65535 < n) (hs : Dt.shp k = some s) :
    Calls Try.prog 40 #[.string m, .int .i64 p, .int .i64 n, .int .i64 k] w fun e w' => PtEnd w (Dt.splitL (bl m) p n k) e w' := by
  have hm' := hm
  unfold maxLen at hm'
  have hsm := Dt.shp_small hs
  have hR : Dt.splitL (bl m) p n k = Dt.takeL (bl m) p (p + n) s := by rw [Dt.splitL, if_neg hn, hs]
  rw [hR]
  clear hR
  have hT := fun W => takeP_any s false m p (p + n) W hm (by omega) h (by omega) (by omega)
  generalize Dt.takeL (bl m) p (p + n) s = R at *
  have HT := hide hT
  clear hT
  have ho : Oct.takeOk m p n = true := by rw [takeOk_nat]; simpa using h
  have HL1 : lookV k = .agg #[.int .i64 s.a, .int .i64 s.n, .int .i64 s.b, .bool false] := by simp [lookV, hs, shV]
  have HL2 : lookOk k = true := by simp [lookOk, hs]
  clear hs
  have HV1 := hide HL1
  have HV2 := hide HL2
  clear HL1 HL2
  go_enter Try.func40, Try.ntmps40
  go_wp2_with fail
  refine (take_any _ _ _ _ hm (by omega)).mono ?_
  rintro e w1 ⟨rfl, rfl⟩
  go_wp2_with fail
  refine (shapes_any _).mono ?_
  rintro e w2 ⟨rfl, rfl⟩
  go_wp2_with fail
  rw [look2, HV1.out, HV2.out]
  go_wp2_with fail
  have Z0 := ((Zero3.made w 63).below ((Keeps.refl _).alloc (.map shEs 9))).below ((Keeps.refl _).alloc (.cells #[.int .i64 s.a, .int .i64 s.n, .int .i64 s.b, .bool false] 75))
  have K0 : Keeps w (((w.alloc (.cells #[.string ⟨#[]⟩, .slice none 0 0, .string ⟨#[]⟩] 63)).alloc (.map shEs 9)).alloc (.cells #[.int .i64 s.a, .int .i64 s.n, .int .i64 s.b, .bool false] 75)) := (((Keeps.refl _).alloc _).alloc _).alloc _
  generalize ((w.alloc (.cells #[.string ⟨#[]⟩, .slice none 0 0, .string ⟨#[]⟩] 63)).alloc (.map shEs 9)).alloc (.cells #[.int .i64 s.a, .int .i64 s.n, .int .i64 s.b, .bool false] 75) = W at *
  rw [show ((p : Int) + (n : Int)) = ((p + n : Nat) : Int) by omega]
  refine (HT.out W).mono ?_
  rintro e w3 ⟨v, rfl, k3, hno, hyes⟩
  have hWs := Z0.2.2.2.2
  obtain ⟨d2, d3, d4, ⟨d5, d6, d7⟩, d8⟩ := Z0.below k3
  have d9 := K0.trans k3
  have HN := hide hno
  have HY := hide hyes
  clear hno hyes
  rcases Option.eq_none_or_eq_some R with hr | ⟨x, hr⟩
  · rw [HN.out hr, show R.isSome = false by rw [hr]; rfl]
    unfold noPt
    have HF := hide hr
    clear hr HN HY
    go_wp2
    exact bodyPost_ret (v := .tuple #[noPt, .bool false]) (by simp [results, Try.results40, go_sem, noPt, d2, d3, d4]) rfl (PtEnd.no HF.out (((d9.setCell (by simp) _).setCell (by simp) _).setCell (by simp) _))
  · obtain ⟨u, hv, hown⟩ := HY.out x hr
    subst hv
    obtain ⟨ua, uc, rfl⟩ := hown.read.len
    rw [show R.isSome = true by rw [hr]; rfl]
    have HF := hide hr
    clear HN HY hr
    generalize hxa : (⟨x.a.toArray⟩ : ByteArray) = A at *
    generalize hxb : (⟨x.b.toArray⟩ : ByteArray) = C at *
    have HA : Hid (bl A = x.a) := by unfold Hid; rw [← hxa]; exact bl_mk _
    have HC : Hid (bl C = x.b) := by unfold Hid; rw [← hxb]; exact bl_mk _
    clear hxa hxb
    go_wp2
    have o1 := ((hown.other (a := ⟨w.heap.size, 0, none⟩) hWs (.string A)).other (a := ⟨w.heap.size, 1, none⟩) hWs (.slice ua x.ns.length uc)).other (a := ⟨w.heap.size, 2, none⟩) hWs (.string C)
    exact bodyPost_ret (v := .tuple #[.agg #[.string A, .slice ua x.ns.length uc, .string C], .bool true]) (by simp [results, Try.results40, go_sem, d2, d3, d4]) rfl (PtEnd.yes HF.out (((d9.setCell (by simp) _).setCell (by simp) _).setCell (by simp) _) (PtOwn.le (PtOwn.mk A C HA.out HC.out o1) (by omega)))

set_option maxHeartbeats 2000000 in
set_option maxRecDepth 100000 in
theorem split_plain (m : ByteArray) (p n : Nat) (k : Int) (w : World) (hm : m.size ≤ maxLen) (h : p + n ≤ m.size) (hn : ¬ 65535 < n) (hs : Dt.shp k = none) (hk : ¬ k = 16) :
    Calls Try.prog 40 #[.string m, .int .i64 p, .int .i64 n, .int .i64 k] w fun e w' => PtEnd w (Dt.splitL (bl m) p n k) e w' := by
  have hm' := hm
  unfold maxLen at hm'
  have HR : Hid (Dt.splitL (bl m) p n k = some ⟨Dt.part (bl m) p n, [], []⟩) := by
    unfold Hid; rw [Dt.splitL, if_neg hn, hs]
    exact if_neg (fun h => hk h.1)
  have ho : Oct.takeOk m p n = true := by rw [takeOk_nat]; simpa using h
  have HA := hide (takeS_nat m p n h)
  have HV2 : Hid (lookOk k = false) := by simp [lookOk, hs, hk, Hid]
  have HV1 : Hid (lookV k = .agg #[.int .i64 0, .int .i64 0, .int .i64 0, .bool false]) := by
    have : (k == 16) = false := beq_eq_false_iff_ne.2 hk
    simp only [lookV, hs, shV, this, Hid]; rfl
  clear hs hk
  go_enter Try.func40, Try.ntmps40
  go_wp2_with fail
  refine (take_any _ _ _ _ hm (by omega)).mono ?_
  rintro e w1 ⟨rfl, rfl⟩
  go_wp2_with fail
  refine (shapes_any _).mono ?_
  rintro e w2 ⟨rfl, rfl⟩
  go_wp2_with fail
  rw [look2, HV1.out, HV2.out]
  generalize Oct.takeS m p n = A at *
  go_wp2
  exact bodyPost_ret (v := .tuple #[.agg #[.string A, .slice none 0 0, .string ⟨#[]⟩], .bool true]) (by simp [results, Try.results40, go_sem]) rfl (PtEnd.yes HR.out ((((Keeps.refl _).alloc _).alloc _).alloc _) (PtOwn.mk A ⟨#[]⟩ HA.out rfl (OwnsS.nil _ _)))

set_option maxHeartbeats 2000000 in
set_option maxRecDepth 100000 in
theorem split_texts (m : ByteArray) (p n : Nat) (w : World) (hm : m.size ≤ maxLen) (h : p + n ≤ m.size) (hn : ¬ 65535 < n) :
    Calls Try.prog 40 #[.string m, .int .i64 p, .int .i64 n, .int .i64 16] w fun e w' => PtEnd w (Dt.splitL (bl m) p n 16) e w' := by
  have hm' := hm
  unfold maxLen at hm'
  have hs : Dt.shp 16 = none := by decide
  have HR : Hid (Dt.splitL (bl m) p n 16 = if Dt.textsB (Dt.part (bl m) p n) = false then none else some ⟨Dt.part (bl m) p n, [], []⟩) := by
    unfold Hid; rw [Dt.splitL, if_neg hn, hs]
    simp
  have ho : Oct.takeOk m p n = true := by rw [takeOk_nat]; simpa using h
  have HA := hide (takeS_nat m p n h)
  have hsz := Oct.takeS_size m p n ho
  have HV2 : Hid (lookOk 16 = true) := by unfold Hid; decide
  have HV1 : Hid (lookV 16 = .agg #[.int .i64 0, .int .i64 0, .int .i64 0, .bool true]) := by unfold Hid; rfl
  clear hs
  cases hb : Dt.textsB (Dt.part (bl m) p n)
  · rw [hb, if_pos rfl] at HR
    have HB : Hid (Dt.textsB (bl (Oct.takeS m p n)) = false) := by unfold Hid; rw [HA.out]; exact hb
    clear hb
    go_enter Try.func40, Try.ntmps40
    go_wp2_with fail
    refine (take_any _ _ _ _ hm (by omega)).mono ?_
    rintro e w1 ⟨rfl, rfl⟩
    go_wp2_with fail
    refine (shapes_any _).mono ?_
    rintro e w2 ⟨rfl, rfl⟩
    go_wp2_with fail
    rw [look2, HV1.out, HV2.out]
    generalize Oct.takeS m p n = A at *
    go_wp2_with fail
    refine (areTexts_any _ _ (by omega)).mono ?_
    rintro e w3 ⟨rfl, rfl⟩
    rw [HB.out]
    go_wp2
    exact bodyPost_ret (v := .tuple #[noPt, .bool false]) (by simp [results, Try.results40, go_sem, noPt]) rfl (PtEnd.no HR.out ((((Keeps.refl _).alloc _).alloc _).alloc _))
  · rw [hb, if_neg (by simp)] at HR
    have HB : Hid (Dt.textsB (bl (Oct.takeS m p n)) = true) := by unfold Hid; rw [HA.out]; exact hb
    clear hb
    go_enter Try.func40, Try.ntmps40
    go_wp2_with fail
    refine (take_any _ _ _ _ hm (by omega)).mono ?_
    rintro e w1 ⟨rfl, rfl⟩
    go_wp2_with fail
    refine (shapes_any _).mono ?_
    rintro e w2 ⟨rfl, rfl⟩
    go_wp2_with fail
    rw [look2, HV1.out, HV2.out]
    generalize Oct.takeS m p n = A at *
    go_wp2_with fail
    refine (areTexts_any _ _ (by omega)).mono ?_
    rintro e w3 ⟨rfl, rfl⟩
    rw [HB.out]
    go_wp2
    exact bodyPost_ret (v := .tuple #[.agg #[.string A, .slice none 0 0, .string ⟨#[]⟩], .bool true]) (by simp [results, Try.results40, go_sem]) rfl (PtEnd.yes HR.out ((((Keeps.refl _).alloc _).alloc _).alloc _) (PtOwn.mk A ⟨#[]⟩ HA.out rfl (OwnsS.nil _ _)))

theorem split_any (m : ByteArray) (p n : Nat) (k : Int) (w : World) (hm : m.size ≤ maxLen) (h : p + n ≤ m.size) :
    Calls Try.prog 40 #[.string m, .int .i64 p, .int .i64 n, .int .i64 k] w fun e w' => PtEnd w (Dt.splitL (bl m) p n k) e w' := by
  by_cases hn : 65535 < n
  · exact split_big m p n k w hm h hn
  · cases hs : Dt.shp k with
    | some s => exact split_shape m p n k s w hm h hn hs
    | none =>
      by_cases hk : k = 16
      · subst hk
        exact split_texts m p n w hm h hn
      · exact split_plain m p n k w hm h hn hs hk
end Go.Proofs.Ythoominldliphaa
