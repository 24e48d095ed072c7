/- What take of layer 5 answers, for every input. -/
import Derived.Test.YthoominldliphaaDataWalk2
import Derived.Test.YthoominldliphaaNameWalk2
namespace Go.Proofs.Ythoominldliphaa
open Go.RowKit

/-- Data taken apart, whose list of names the call itself made. -/
def PtOwn (w : World) (B : Nat) (v : Value) (x : Dt.Pt) : Prop := ∃ u, v = .agg #[.string ⟨x.a.toArray⟩, u, .string ⟨x.b.toArray⟩] ∧ OwnsS w B u x.ns
theorem PtOwn.mk {w : World} {B : Nat} {u : Value} {x : Dt.Pt} (A C : ByteArray) (hA : bl A = x.a) (hC : bl C = x.b) (h : OwnsS w B u x.ns) : PtOwn w B (.agg #[.string A, u, .string C]) x :=
  ⟨u, by rw [← hA, ← hC]; simp [bl], h⟩
theorem PtOwn.at_ {w : World} {B : Nat} {v : Value} {x : Dt.Pt} (h : PtOwn w B v x) : PtAt w v x := by
  obtain ⟨u, rfl, h⟩ := h
  exact ⟨u, rfl, h.read⟩
theorem PtOwn.below {w w' : World} {B : Nat} {v : Value} {x : Dt.Pt} (h : PtOwn w B v x) (k : Keeps w w') : PtOwn w' B v x := by
  obtain ⟨u, rfl, h⟩ := h
  exact ⟨u, rfl, h.below k⟩
theorem PtOwn.le {w : World} {B B' : Nat} {v : Value} {x : Dt.Pt} (h : PtOwn w B v x) (hb : B' ≤ B) : PtOwn w B' v x := by
  obtain ⟨u, rfl, h⟩ := h
  exact ⟨u, rfl, h.le hb⟩
def noPt : Value := .agg #[.string ⟨#[]⟩, .slice none 0 0, .string ⟨#[]⟩]
/-- What comes of a call that takes data apart. -/
def PtEnd (w : World) (r : Option Dt.Pt) (e : Ending) (w' : World) : Prop :=
  ∃ v, e = .returned (.tuple #[v, .bool r.isSome]) ∧ Keeps w w' ∧ (r = none → v = noPt) ∧ ∀ x, r = some x → PtOwn w' w.heap.size v x
theorem PtEnd.no {w w' : World} {r : Option Dt.Pt} (hr : r = none) (h : Keeps w w') : PtEnd w r (.returned (.tuple #[noPt, .bool false])) w' :=
  ⟨noPt, by rw [hr]; rfl, h, fun _ => rfl, fun x hx => by rw [hr] at hx; cases hx⟩
theorem PtEnd.yes {w w' : World} {r : Option Dt.Pt} {v : Value} {x : Dt.Pt} (hr : r = some x) (h : Keeps w w') (hx : PtOwn w' w.heap.size v x) : PtEnd w r (.returned (.tuple #[v, .bool true])) w' :=
  ⟨v, by rw [hr]; rfl, h, fun h => (by rw [hr] at h; cases h), fun y hy => by rw [hr] at hy; cases hy; exact hx⟩

theorem takeOk_nat (m : ByteArray) (p k : Nat) : Oct.takeOk m p k = decide (p + k ≤ m.size) := by
  rw [Bool.eq_iff_iff]
  simp only [Oct.takeOk, decide_eq_true_eq]
  omega
theorem takeS_nat (m : ByteArray) (p k : Nat) (h : p + k ≤ m.size) : bl (Oct.takeS m p k) = Dt.part (bl m) p k := by
  have : Oct.takeOk m p k = true := by rw [takeOk_nat]; simpa using h
  rw [Oct.takeS, if_pos this, bl_extract, Dt.part]
  congr 1
  omega

set_option maxHeartbeats 800000 in
theorem take_short (s : Dt.Sh) (t : Bool) (m : ByteArray) (p e : Nat) (w : World) (hm : m.size ≤ maxLen) (hp : p ≤ m.size) (_ : s.a ≤ 100) (h : ¬ p + s.a ≤ m.size) :
    Calls Try.prog 51 #[shV s t, .string m, .int .i64 p, .int .i64 e] w fun x w' => PtEnd w none x w' := by
  have hm' := hm
  unfold maxLen at hm'
  have h1 : Oct.takeOk m p s.a = false := by rw [takeOk_nat]; simpa using h
  unfold shV
  go_enter Try.func51, Try.ntmps51
  go_wp2_with (go_at_call 38; refine (take_any _ _ _ _ hm (by omega)).mono ?_; rintro e w' ⟨rfl, rfl⟩)
  exact bodyPost_ret (v := .tuple #[noPt, .bool false]) (by simp [results, Try.results51, go_sem, noPt]) rfl (PtEnd.no rfl (((Keeps.refl _).alloc _).alloc _))

theorem OwnsS.other {w : World} {B : Nat} {v : Value} {l : List (List UInt8)} (h : OwnsS w B v l) {a : Addr} (ha : a.block < B) (u : Value) : OwnsS (w.setCell a u) B v l := by
  refine ⟨h.1, ?_⟩
  rcases h.2 with hn | ⟨g, cap, cur, rfl, hB, hg, rest⟩
  · exact .inl hn
  · exact .inr ⟨g, cap, cur, rfl, hB, by rw [heap_setCell_other w a g u (by omega)]; exact hg, rest⟩

theorem rds_step_yes {l : List UInt8} {n j q : Nat} {ds : List (List UInt8)} {z : Option (List (List UInt8) × Nat)} (h : z = (Dt.rds l (n - j) q).map (fun x => (ds ++ x.1, x.2))) (hj : j < n) (he : (Cm.readL l q).e = 0) :
    z = (Dt.rds l (n - (j + 1)) (Cm.readL l q).next).map (fun x => ((ds ++ [(Cm.readL l q).n]) ++ x.1, x.2)) := by
  rw [h, show n - j = (n - (j + 1)) + 1 by omega, Dt.rds, if_pos he, Option.map_map]
  congr 1
  funext x
  simp
theorem rds_step_no {l : List UInt8} {n j q : Nat} {ds : List (List UInt8)} {z : Option (List (List UInt8) × Nat)} (h : z = (Dt.rds l (n - j) q).map (fun x => (ds ++ x.1, x.2))) (hj : j < n) (he : (Cm.readL l q).e ≠ 0) : z = none := by
  rw [h, show n - j = (n - (j + 1)) + 1 by omega, Dt.rds, if_neg he]
  rfl

def TkRel (m : ByteArray) (n : Nat) (z : Option (List (List UInt8) × Nat)) (W : World) (a b i : Value) (wr : World) : Prop :=
  ∃ (j q : Nat) (ds : List (List UInt8)), j ≤ n ∧ ds.length = j ∧ i = .int .i64 j ∧ b = .int .i64 q ∧ q ≤ m.size ∧ OwnsS wr W.heap.size a ds ∧ z = (Dt.rds (bl m) (n - j) q).map (fun x => (ds ++ x.1, x.2)) ∧ Below W.heap.size W wr
theorem TkRel.mk {m : ByteArray} {n : Nat} {z : Option (List (List UInt8) × Nat)} {W wr : World} {a : Value} (j q : Nat) (ds : List (List UInt8)) (h1 : j ≤ n) (h2 : ds.length = j) (h3 : q ≤ m.size) (h4 : OwnsS wr W.heap.size a ds) (h5 : z = (Dt.rds (bl m) (n - j) q).map (fun x => (ds ++ x.1, x.2))) (h6 : Below W.heap.size W wr) :
    TkRel m n z W a (.int .i64 q) (.int .i64 j) wr := ⟨j, q, ds, h1, h2, rfl, rfl, h3, h4, h5, h6⟩

def tkOf (l : List UInt8) (p e : Nat) (s : Dt.Sh) (z : Option (List (List UInt8) × Nat)) : Option Dt.Pt :=
  match z with
  | none => none
  | some (ns, q) => if q + s.b = e then some ⟨Dt.part l p s.a, ns, Dt.part l q s.b⟩ else none
theorem tkOf_none (l : List UInt8) (p e : Nat) (s : Dt.Sh) : tkOf l p e s none = none := rfl
theorem tkOf_yes (l : List UInt8) (p e : Nat) (s : Dt.Sh) (ns : List (List UInt8)) (q : Nat) (h : q + s.b = e) : tkOf l p e s (some (ns, q)) = some ⟨Dt.part l p s.a, ns, Dt.part l q s.b⟩ := if_pos h
theorem tkOf_no (l : List UInt8) (p e : Nat) (s : Dt.Sh) (ns : List (List UInt8)) (q : Nat) (h : ¬ q + s.b = e) : tkOf l p e s (some (ns, q)) = none := if_neg h
theorem takeL_of {l : List UInt8} {p : Nat} (e : Nat) {s : Dt.Sh} (h : p + s.a ≤ l.length) : Dt.takeL l p e s = tkOf l p e s (Dt.rds l s.n (p + s.a)) := if_pos h

/-- The cells that take has laid. -/
def TkW (w : World) (s : Dt.Sh) (W : World) : Prop :=
  W.cell? ⟨w.heap.size, 2, none⟩ = some (.int .i64 s.b) ∧ W.cell? ⟨w.heap.size + 1, 0, none⟩ = some (.string ⟨#[]⟩) ∧ W.cell? ⟨w.heap.size + 1, 1, none⟩ = some (.slice none 0 0) ∧ W.cell? ⟨w.heap.size + 1, 2, none⟩ = some (.string ⟨#[]⟩) ∧
  (W.frozen? ⟨w.heap.size + 1, 0, none⟩ = false ∧ W.frozen? ⟨w.heap.size + 1, 1, none⟩ = false ∧ W.frozen? ⟨w.heap.size + 1, 2, none⟩ = false) ∧ w.heap.size + 1 < W.heap.size ∧ Keeps w W
theorem TkW.below {w W W' : World} {s : Dt.Sh} (h : TkW w s W) (hb : Below W.heap.size W W') : TkW w s W' := by
  obtain ⟨h1, h2, h3, h4, ⟨h5, h6, h7⟩, h8, h9⟩ := h
  obtain ⟨hc, hf⟩ := bcell hb
  exact ⟨(hc _ _ (by omega)).trans h1, (hc _ _ h8).trans h2, (hc _ _ h8).trans h3, (hc _ _ h8).trans h4, ⟨(hf _ _ h8).trans h5, (hf _ _ h8).trans h6, (hf _ _ h8).trans h7⟩, Nat.lt_of_lt_of_le h8 hb.size, h9.trans hb⟩
theorem TkW.made (w : World) (s : Dt.Sh) (t : Bool) : TkW w s ((w.alloc (.cells #[.int .i64 s.a, .int .i64 s.n, .int .i64 s.b, .bool t] 75)).alloc (.cells #[.string ⟨#[]⟩, .slice none 0 0, .string ⟨#[]⟩] 63)) := by
  refine ⟨?_, ?_, ?_, ?_, ⟨?_, ?_, ?_⟩, ?_, ((Keeps.refl _).alloc _).alloc _⟩ <;> go_simp

set_option maxHeartbeats 2000000 in
set_option maxRecDepth 100000 in
theorem take_long (s : Dt.Sh) (t : Bool) (m : ByteArray) (p e : Nat) (w : World) (z : Option (List (List UInt8) × Nat)) (hm : m.size ≤ maxLen) (he : e ≤ m.size) (hs : s.a ≤ 100) (hsn : s.n ≤ 100) (h : p + s.a ≤ m.size) (hz : Hid (z = Dt.rds (bl m) s.n (p + s.a))) :
    Calls Try.prog 51 #[shV s t, .string m, .int .i64 p, .int .i64 e] w fun x w' => PtEnd w (Dt.takeL (bl m) p e s) x w' := by
  have hm' := hm
  unfold maxLen at hm'
  have h1 : Oct.takeOk m p s.a = true := by rw [takeOk_nat]; simpa using h
  have HT : Hid (Dt.takeL (bl m) p e s = tkOf (bl m) p e s z) := by
    unfold Hid
    rw [hz.out]; exact takeL_of e (by rw [bl_length]; exact h)
  have HA := hide (takeS_nat m p s.a h)
  generalize Dt.takeL (bl m) p e s = R at *
  have HW := TkW.made w s t
  unfold shV
  go_enter Try.func51, Try.ntmps51
  go_wp2_with (go_at_call 38; refine (take_any _ _ _ _ hm (by omega)).mono ?_; rintro e w' ⟨rfl, rfl⟩)
  generalize Oct.takeS m p s.a = A at *
  generalize (w.alloc (.cells #[.int .i64 s.a, .int .i64 s.n, .int .i64 s.b, .bool t] 75)).alloc (.cells #[.string ⟨#[]⟩, .slice none 0 0, .string ⟨#[]⟩] 63) = W at *
  go_loopw [12, 13, 35] (fun a b i wr => TkRel m s.n z W a b i wr) (fun _ _ i _ => s.n - (intOf i).toNat)
  case atStart =>
    have : ((p : Int) + (s.a : Int)) = ((p + s.a : Nat) : Int) := by omega
    rw [this]
    exact TkRel.mk 0 _ [] (by omega) rfl h (OwnsS.nil _ _) (by rw [hz.out]; simp) (Below.refl _ _)
  case round =>
    obtain ⟨j, q, ds, hj, hds, rfl, rfl, hq, hown, hz2, hbel⟩ := hrel
    have HZ := hide hz2
    clear hz2 hz
    have hsb := hbel.size
    have HW2 := HW.below hbel
    have hw1 : w.heap.size + 1 < W.heap.size := HW.2.2.2.2.2.1
    have hw0 : w.heap.size ≤ W.heap.size := by omega
    clear HW
    by_cases hlt : j < s.n
    · have hr := Cm.read_names (bl m) q
      generalize hrr : Cm.readL (bl m) q = r at *
      have HRR := hide hrr
      clear hrr
      by_cases he0 : r.e = 0
      · have hnx : r.next ≤ m.size := by
          rcases hr with h | h | ⟨n, k, h, _, _, _, h5⟩
          · rw [h]; simp [Cm.bad]
          · rw [h]; simp [Cm.bad]
          · rw [h, ← bl_length]; exact h5
        have HS : Hid (z = (Dt.rds (bl m) (s.n - (j + 1)) r.next).map (fun x => ((ds ++ [r.n]) ++ x.1, x.2))) := by
          unfold Hid
          rw [← HRR.out]
          exact rds_step_yes HZ.out hlt (by rw [HRR.out]; exact he0)
        have HE : Hid ((r.e : Int) = 0) := by unfold Hid; omega
        clear hr he0
        go_wp2_with fail
        refine (read_any _ _ _ hm (by omega)).mono ?_
        rintro e w1 ⟨rfl, k1⟩
        rw [HRR.out, HE.out]
        have hbel1 := hbel.trans (k1.mono hsb)
        have hsb1 := hbel1.size
        have hown1 := hown.below k1
        clear hown hbel k1
        go_wp2_with (at_builtin; refine wpList_appS _ rfl _ _ rfl W.heap.size _ _ rfl (hown1.alloc _) _ _ (bl (rrS r)) rfl ?c1 ?c2 ?c3 ?_)
        case c1 => first | exact cell_str _ _ _ | exact (sv_bl _).symm
        case c2 => omega
        case c3 => first | omega | (simp; omega)
        intro v' w2 hown' hb' _
        have hbel' := (hbel1.alloc hsb1 _).trans hb'
        clear hb' hown1 hbel1
        go_wp2
        go_roundw
        case rel =>
          rw [show bl (rrS r) = r.n from bl_mk _] at hown'
          exact TkRel.mk (j + 1) r.next _ (by omega) (by simp [hds]) hnx hown' HS.out hbel'
        case measure => simp [intOf]; omega
      · have HE : ((r.e : Int) != 0) = true := by rw [bne_iff_ne]; omega
        have HF : Hid (R = none) := by
          unfold Hid
          rw [HT.out, rds_step_no HZ.out hlt (by rw [HRR.out]; exact he0)]
          rfl
        clear hr he0
        go_wp2_with fail
        refine (read_any _ _ _ hm (by omega)).mono ?_
        rintro e w1 ⟨rfl, k1⟩
        rw [HRR.out]
        have HW3 := HW2.below k1
        obtain ⟨d1, d2, d3, d4, ⟨d5, d6, d7⟩, d8, d9⟩ := HW3
        clear HW2 hown hbel k1
        go_wp2
        exact bodyPost_ret (v := .tuple #[noPt, .bool false]) (by simp [results, Try.results51, go_sem, noPt, d2, d3, d4]) rfl (PtEnd.no HF.out (((d9.setCell (by simp) _).setCell (by simp) _).setCell (by simp) _))
    · have hjn : s.n - j = 0 := by omega
      have HZ2 : Hid (R = tkOf (bl m) p e s (some (ds, q))) := by
        unfold Hid
        rw [HT.out, HZ.out, hjn, Dt.rds]
        simp
      clear HZ HT hjn
      obtain ⟨d1, d2, d3, d4, ⟨d5, d6, d7⟩, d8, d9⟩ := HW2
      subst hds
      obtain ⟨ua, uc, rfl⟩ := hown.read.len
      by_cases hqe : q ≤ e
      · obtain ⟨k, hk⟩ : ∃ k, e = q + k := ⟨e - q, by omega⟩
        have ho : Oct.takeOk m q k = true := by rw [takeOk_nat]; simp; omega
        have HB := hide (takeS_nat m q k (by omega))
        have hsz := Oct.takeS_size m q k ho
        generalize hC : Oct.takeS m q k = C at *
        have HC := hide hC
        have HK : Hid ((e : Int) - (q : Int) = (k : Int)) := by unfold Hid; omega
        have HE := hide hk
        clear hC hk
        by_cases hb : k = s.b
        · have HF : Hid (R = some ⟨Dt.part (bl m) p s.a, ds, Dt.part (bl m) q k⟩) := by
            unfold Hid
            rw [HZ2.out, hb]
            exact tkOf_yes _ _ _ _ _ _ (by rw [HE.out, hb])
          have hne : ((C.size : Int) != (s.b : Int)) = false := by rw [hsz, hb]; simp
          clear hsz hb
          go_wp2_with fail
          rw [HK.out]
          refine (take_any _ _ _ _ hm (by omega)).mono ?_
          rintro e w1 ⟨rfl, hwe⟩
          subst hwe
          rw [HC.out, ho]
          go_wp2
          have o1 := ((hown.other (a := ⟨w.heap.size + 1, 0, none⟩) hw1 (.string A)).other (a := ⟨w.heap.size + 1, 1, none⟩) hw1 (.slice ua ds.length uc)).other (a := ⟨w.heap.size + 1, 2, none⟩) hw1 (.string C)
          exact bodyPost_ret (v := .tuple #[.agg #[.string A, .slice ua ds.length uc, .string C], .bool true]) (by simp [results, Try.results51, go_sem, d2, d3, d4]) rfl (PtEnd.yes HF.out (((d9.setCell (by simp) _).setCell (by simp) _).setCell (by simp) _) (PtOwn.le (PtOwn.mk A C HA.out HB.out o1) hw0))
        · have HF : Hid (R = none) := by
            unfold Hid
            rw [HZ2.out]
            refine tkOf_no _ _ _ _ _ _ ?_
            rw [HE.out]; omega
          have hne : ((C.size : Int) != (s.b : Int)) = true := by rw [hsz, bne_iff_ne]; omega
          clear hsz hb
          go_wp2_with fail
          rw [HK.out]
          refine (take_any _ _ _ _ hm (by omega)).mono ?_
          rintro e w1 ⟨rfl, hwe⟩
          subst hwe
          rw [HC.out, ho]
          go_wp2
          exact bodyPost_ret (v := .tuple #[noPt, .bool false]) (by simp [results, Try.results51, go_sem, noPt, d2, d3, d4]) rfl (PtEnd.no HF.out (((d9.setCell (by simp) _).setCell (by simp) _).setCell (by simp) _))
      · have HF : Hid (R = none) := by
          unfold Hid
          rw [HZ2.out]
          exact tkOf_no _ _ _ _ _ _ (by omega)
        have ho : Oct.takeOk m q ((e : Int) - (q : Int)) = false := by
          simp only [Oct.takeOk, decide_eq_false_iff_not]; omega
        go_wp2_with fail
        refine (take_any _ _ _ _ hm (by omega)).mono ?_
        rintro e w1 ⟨rfl, hwe⟩
        subst hwe
        rw [ho]
        go_wp2
        exact bodyPost_ret (v := .tuple #[noPt, .bool false]) (by simp [results, Try.results51, go_sem, noPt, d2, d3, d4]) rfl (PtEnd.no HF.out (((d9.setCell (by simp) _).setCell (by simp) _).setCell (by simp) _))

theorem takeP_any (s : Dt.Sh) (t : Bool) (m : ByteArray) (p e : Nat) (w : World) (hm : m.size ≤ maxLen) (hp : p ≤ m.size) (he : e ≤ m.size) (hs : s.a ≤ 100) (hsn : s.n ≤ 100) :
    Calls Try.prog 51 #[shV s t, .string m, .int .i64 p, .int .i64 e] w fun x w' => PtEnd w (Dt.takeL (bl m) p e s) x w' := by
  by_cases h : p + s.a ≤ m.size
  · exact take_long s t m p e w _ hm he hs hsn h (hide rfl)
  · rw [Dt.takeL, if_neg (by rw [bl_length]; exact h)]
    exact take_short s t m p e w hm hp hs h
end Go.Proofs.Ythoominldliphaa
