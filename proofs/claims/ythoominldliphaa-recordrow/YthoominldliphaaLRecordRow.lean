/- RecordRow answers true, for every input: the walk. -/
import Derived.Test.YthoominldliphaaLRecordBack
import Derived.Test.YthoominldliphaaShapesR
namespace Go.Proofs.Ythoominldliphaa
open Go.RowKit

/-- Records as bytes, one behind the other. -/
def rowL (base : ByteArray) (rs : List Rec) : List UInt8 := (rs.map fun r => bl (encS base 12 r)).flatten
theorem rowL_snoc {base : ByteArray} {rs : List Rec} {j : Nat} (h : j < rs.length) : rowL base (rs.take (j + 1)) = rowL base (rs.take j) ++ bl (encS base 12 rs[j]) := by
  rw [rowL, rowL, List.take_succ_eq_append_getElem h, List.map_append, List.flatten_append]
  simp
theorem rowL_split {base : ByteArray} {rs : List Rec} {j : Nat} (h : j < rs.length) : rowL base rs = rowL base (rs.take j) ++ (bl (encS base 12 rs[j]) ++ rowL base (rs.drop (j + 1))) := by
  have e : rs = rs.take j ++ rs[j] :: rs.drop (j + 1) := by rw [← List.drop_eq_getElem_cons h, List.take_append_drop]
  have e2 : ∀ l k : List Rec, rowL base (l ++ k) = rowL base l ++ rowL base k := fun l k => by rw [rowL, List.map_append, List.flatten_append]; rfl
  have e3 : ∀ (x : Rec) (k : List Rec), rowL base (x :: k) = bl (encS base 12 x) ++ rowL base k := fun x k => rfl
  conv => lhs; rw [e]
  rw [e2, e3]
/-- The cells of a record in a row. -/
def Cells5 (b o : Nat) (r : Rec) (w : World) : Prop :=
  w.cell? ⟨b, o, none⟩ = some (.string r.n) ∧ w.cell? ⟨b, o + 1, none⟩ = some (.int .i64 r.t) ∧ w.cell? ⟨b, o + 2, none⟩ = some (.int .i64 r.c) ∧ w.cell? ⟨b, o + 3, none⟩ = some (.int .i64 r.l) ∧ w.cell? ⟨b, o + 4, none⟩ = some (.string r.d) ∧ b < w.heap.size
theorem Cells5.keeps {b o : Nat} {r : Rec} {w w' : World} (h : Cells5 b o r w) (k : Keeps w w') : Cells5 b o r w' :=
  have g := h.2.2.2.2.2
  ⟨(k.cell (p := ⟨b, o, none⟩) g).trans h.1, (k.cell (p := ⟨b, o + 1, none⟩) g).trans h.2.1, (k.cell (p := ⟨b, o + 2, none⟩) g).trans h.2.2.1, (k.cell (p := ⟨b, o + 3, none⟩) g).trans h.2.2.2.1, (k.cell (p := ⟨b, o + 4, none⟩) g).trans h.2.2.2.2.1, Nat.lt_of_lt_of_le g k.size⟩
theorem row_five {w : World} {b off n cap j : Nat} {rs : List Rec} (h : ReadRow w (.slice (some ⟨b, off, none⟩) n cap) 5 (rs.map recL)) (hj : j < rs.length) : Cells5 b (off + j * 5) rs[j] w := by
  obtain ⟨b', off', he, hbl, hcell⟩ := h.parts (by rw [List.length_map]; omega)
  simp only [Option.some.injEq, Addr.mk.injEq, and_true] at he
  obtain ⟨rfl, rfl⟩ := he
  have hj' : j < (rs.map recL).length := by rw [List.length_map]; exact hj
  have c0 := hcell j hj' 0 (by decide)
  have c1 := hcell j hj' 1 (by decide)
  have c2 := hcell j hj' 2 (by decide)
  have c3 := hcell j hj' 3 (by decide)
  have c4 := hcell j hj' 4 (by decide)
  rw [List.getElem_map] at c0 c1 c2 c3 c4
  exact ⟨c0, c1, c2, c3, c4, hbl⟩
def headB : ByteArray := ⟨#[49, 50, 51, 52, 53, 54, 55, 56, 57, 97, 98, 99]⟩
def Good6 (r : Rec) : Prop := recOk r = true ∧ r.d.size ≤ 2000 ∧ r.n.size ≤ 300
def RowRel (base : ByteArray) (rs : List Rec) (W : World) (m i : Value) (wr : World) : Prop :=
  ∃ (j : Nat) (X : ByteArray), j ≤ rs.length ∧ i = .int .i64 j ∧ m = .string X ∧ bl X = bl headB ++ (bl base ++ rowL base (rs.take j)) ∧ X.size ≤ 312 + 3000 * j ∧ (∀ k (h : k < rs.length), k < j → Good6 rs[k]) ∧ Keeps W wr
theorem RowRel.mk {base : ByteArray} {rs : List Rec} {W wr : World} (j : Nat) (X : ByteArray) (h1 : j ≤ rs.length) (h2 : bl X = bl headB ++ (bl base ++ rowL base (rs.take j))) (h3 : X.size ≤ 312 + 3000 * j) (h4 : ∀ k (h : k < rs.length), k < j → Good6 rs[k]) (h5 : Keeps W wr) :
    RowRel base rs W (.string X) (.int .i64 j) wr := ⟨j, X, h1, rfl, rfl, h2, h3, h4, h5⟩
/-- The cells of two records. -/
def Ten (b o : Nat) (r : Rec) (G : Nat) (k : ByteArray) (w' : World) : Prop := w'.cell? ⟨b, o, none⟩ = some (.string r.n) ∧ w'.cell? ⟨b, o + 1, none⟩ = some (.int .i64 r.t) ∧ w'.cell? ⟨b, o + 2, none⟩ = some (.int .i64 r.c) ∧ w'.cell? ⟨b, o + 3, none⟩ = some (.int .i64 r.l) ∧ w'.cell? ⟨b, o + 4, none⟩ = some (.string r.d) ∧ w'.cell? ⟨G, 0, none⟩ = some (.string k) ∧ w'.cell? ⟨G, 1, none⟩ = some (.int .i64 r.t) ∧ w'.cell? ⟨G, 2, none⟩ = some (.int .i64 r.c) ∧ w'.cell? ⟨G, 3, none⟩ = some (.int .i64 r.l) ∧ w'.cell? ⟨G, 4, none⟩ = some (.string r.d)
theorem Ten.keeps {b o : Nat} {r : Rec} {G : Nat} {k : ByteArray} {w w' : World} (h : Ten b o r G k w) (hb : b < w.heap.size) (hG : G < w.heap.size) (hk : Keeps w w') : Ten b o r G k w' := by
  obtain ⟨h0, h1, h2, h3, h4, g0, g1, g2, g3, g4⟩ := h
  exact ⟨(hk.cell (p := ⟨b, o, none⟩) hb).trans h0, (hk.cell (p := ⟨b, o + 1, none⟩) hb).trans h1, (hk.cell (p := ⟨b, o + 2, none⟩) hb).trans h2, (hk.cell (p := ⟨b, o + 3, none⟩) hb).trans h3, (hk.cell (p := ⟨b, o + 4, none⟩) hb).trans h4,
    (hk.cell (p := ⟨G, 0, none⟩) hG).trans g0, (hk.cell (p := ⟨G, 1, none⟩) hG).trans g1, (hk.cell (p := ⟨G, 2, none⟩) hG).trans g2, (hk.cell (p := ⟨G, 3, none⟩) hG).trans g3, (hk.cell (p := ⟨G, 4, none⟩) hG).trans g4⟩
def PlRel (base : ByteArray) (rs : List Rec) (W : World) (p i : Value) (wr : World) : Prop :=
  ∃ j : Nat, j ≤ rs.length ∧ i = .int .i64 j ∧ p = .int .i64 (12 + base.size + (rowL base (rs.take j)).length : Nat) ∧ Keeps W wr
theorem PlRel.mk {base : ByteArray} {rs : List Rec} {W wr : World} (j : Nat) (h1 : j ≤ rs.length) (h5 : Keeps W wr) :
    PlRel base rs W (.int .i64 (12 + base.size + (rowL base (rs.take j)).length : Nat)) (.int .i64 j) wr := ⟨j, h1, rfl, rfl, h5⟩

set_option maxHeartbeats 8000000 in
set_option maxRecDepth 100000 in
theorem RecordRow_walk (base : ByteArray) (v : Value) (rs : List Rec) (w : World) (hb : base.size ≤ maxLen) (hv : ReadRow w v 5 (rs.map recL) ∧ (∀ r ∈ rs, RecFine r) ∧ rs.length ≤ maxLen) :
    Calls Try.prog 6 #[.string base, v] w fun e w' => e = .returned (.bool true) ∧ Keeps w w' := by
  have hb' := hb
  unfold maxLen at hb'
  obtain ⟨hrd, hfine, hlen⟩ := hv
  unfold maxLen at hlen
  obtain ⟨a, cap, rfl⟩ := hrd.len
  rw [List.length_map] at hrd
  rw [List.length_map]
  have HF := hide hfine
  clear hfine
  by_cases l1 : 300 < (base.size : Int)
  · go_enter Try.func6, Try.ntmps6
    go_wp2_with (go_at_call 8; refine (live6_any _).mono ?_; rintro e w3 ⟨rfl, k3⟩)
    go_ret
    exact ⟨rfl, k3⟩
  by_cases l2 : 20 < (rs.length : Int)
  · go_enter Try.func6, Try.ntmps6
    go_wp2_with (go_at_call 8; refine (live6_any _).mono ?_; rintro e w3 ⟨rfl, k3⟩)
    go_ret
    exact ⟨rfl, k3⟩
  have H4 := hide (fun W => refcheck_any base W hb)
  cases ho : Nm.okL (bl base)
  · rw [ho] at H4
    go_enter Try.func6, Try.ntmps6
    go_wp2_with fail
    refine (H4.out _).mono ?_
    rintro e w1 ⟨rfl, k1⟩
    go_wp2_with fail
    refine (live6_any _).mono ?_
    rintro e w3 ⟨rfl, k3⟩
    go_wp2
    go_ret
    exact ⟨rfl, k1.trans k3⟩
  rw [ho] at H4
  go_enter Try.func6, Try.ntmps6
  go_wp2_with fail
  refine (H4.out _).mono ?_
  rintro e w1 ⟨rfl, k1⟩
  replace hrd := hrd.keeps k1
  clear H4
  go_wp2_with fail
  have hX0 : bl (headB ++ base) = bl headB ++ (bl base ++ rowL base (rs.take 0)) := by rw [bl_append]; simp [rowL]
  have hX1 : (headB ++ base).size ≤ 312 + 3000 * 0 := by
    rw [ByteArray.size_append]
    have : headB.size = 12 := by decide
    omega
  go_loopw [5, 6] (fun m i wr => RowRel base rs w1 m i wr) (fun _ i _ => rs.length - (intOf i).toNat)
  case atStart => exact RowRel.mk 0 _ (by omega) hX0 hX1 (fun k h hk => absurd hk (by omega)) (Keeps.refl _)
  case round =>
    clear hX0 hX1
    obtain ⟨j, X, hj, rfl, rfl, hX, hXs, hgood, hk⟩ := hrel
    have HX := hide hX
    have HG := hide hgood
    clear hX hgood
    replace hrd := hrd.keeps hk
    have K := k1.trans hk
    by_cases hlt : j < rs.length
    · have i1 : (j : Int) < (rs.length : Int) := by omega
      have i0 : (0 : Int) ≤ (j : Int) := by omega
      obtain ⟨b, off, rfl, _, _⟩ := hrd.parts (by rw [List.length_map]; omega)
      have hr := HF.out _ (List.getElem_mem hlt)
      have C := row_five hrd hlt
      generalize hoo : off + j * 5 = o at C
      generalize hrr : rs[j] = r at *
      have HR := hide hrr
      clear hrr
      obtain ⟨c0, c1, c2, c3, c4, c5⟩ := id C
      by_cases l3 : 300 < (r.n.size : Int)
      · go_wp2_with fail
        refine (live6_any _).mono ?_
        rintro e w3 ⟨rfl, k3⟩
        go_wp2
        go_ret
        exact ⟨rfl, K.trans k3⟩
      by_cases l4 : 2000 < (r.d.size : Int)
      · go_wp2_with fail
        refine (live6_any _).mono ?_
        rintro e w3 ⟨rfl, k3⟩
        go_wp2
        go_ret
        exact ⟨rfl, K.trans k3⟩
      have HC := hide (fun W => rcheck_any r W hr.1 hr.2.1)
      cases hok : recOk r
      · rw [hok] at HC
        unfold recV at HC
        go_wp2_with fail
        refine (HC.out _).mono ?_
        rintro e w2 ⟨rfl, k2⟩
        go_wp2_with fail
        refine (live6_any _).mono ?_
        rintro e w3 ⟨rfl, k3⟩
        go_wp2
        go_ret
        exact ⟨rfl, (K.trans k2).trans k3⟩
      · rw [hok] at HC
        have HE := hide (fun W => encode_any base 12 r W hb hr.1 (by omega))
        have hes := enc_size (base := base) (p := 12) (r := r) (by omega)
        have hrow := rowL_snoc (base := base) hlt
        rw [HR.out] at hrow
        have HW := hide hrow
        generalize encS base 12 r = S at *
        have hadd : ∀ w, (Op.stringOp .add X S).run Try.prog w = .ok (.string (X ++ S)) w := fun w => run_string_add_sum w _ _ (by omega)
        unfold recV at HC HE
        clear hrow
        go_wp2_with fail
        refine (HC.out _).mono ?_
        rintro e w2 ⟨rfl, k2⟩
        replace C := C.keeps k2
        clear c0 c1 c2 c3 c4 c5
        obtain ⟨c0, c1, c2, c3, c4, c5⟩ := id C
        go_wp2_with fail
        refine (HE.out _).mono ?_
        rintro e w3 ⟨rfl, k3⟩
        go_wp2
        go_roundw
        case rel =>
          refine RowRel.mk (j + 1) (X ++ S) (by omega) ?_ (by rw [ByteArray.size_append]; omega) ?_ ((hk.trans k2).trans k3)
          · rw [bl_append, HX.out, HW.out]
            simp only [List.append_assoc]
          · intro k h hkj
            rcases Nat.lt_or_ge k j with h1 | h1
            · exact HG.out k h h1
            · have : k = j := by omega
              subst this
              rw [HR.out]
              exact ⟨hok, by omega, by omega⟩
        case measure => simp [intOf]; omega
    · have i1 : ¬ (j : Int) < (rs.length : Int) := by omega
      have hjn : j = rs.length := by omega
      subst hjn
      rw [List.take_length] at HX
      clear hlt
      have HG2 : Hid (∀ k (h : k < rs.length), Good6 rs[k]) := fun k h => HG.out k h h
      clear HG
      have hXl : X.size = 12 + base.size + (rowL base rs).length := by
        rw [← bl_length, HX.out]
        simp only [List.length_append, bl_length]
        have : headB.size = 12 := by decide
        omega
      have HXl := hide hXl
      clear hXl
      go_wp2_with fail
      go_loopw [7, 8] (fun p i wr2 => PlRel base rs wr p i wr2) (fun _ i _ => rs.length - (intOf i).toNat)
      case atStart =>
        have e1 : (12 : Int) + (base.size : Int) = ((12 + base.size + (rowL base (rs.take 0)).length : Nat) : Int) := by simp [rowL]
        rw [e1]
        exact PlRel.mk 0 (by omega) (Keeps.refl _)
      case round =>
        obtain ⟨j, hj2, rfl, rfl, hk2⟩ := hrel
        replace hrd := hrd.keeps hk2
        replace K := K.trans hk2
        clear hk
        by_cases hlt : j < rs.length
        · have i2 : (j : Int) < (rs.length : Int) := by omega
          have i0 : (0 : Int) ≤ (j : Int) := by omega
          obtain ⟨b, off, rfl, _, _⟩ := hrd.parts (by rw [List.length_map]; omega)
          have hr := HF.out _ (List.getElem_mem hlt)
          have hg := HG2.out j hlt
          have C := row_five hrd hlt
          generalize hoo : off + j * 5 = o at C
          have hsp := rowL_split (base := base) hlt
          have hrow := rowL_snoc (base := base) hlt
          generalize hrr : rs[j] = r at *
          have HR := hide hrr
          clear hrr
          have he : encOk base 12 r = true := by
            have h2 := ((recOk_spec r).1 hg.1).1
            simp [encOk, hg.1, Cm.wrOk, ho, h2]
          have d1 : (bl X).drop 12 = bl base ++ rowL base rs := by
            rw [HX.out]; rfl
          have d2 : (bl X).drop (12 + base.size + (rowL base (rs.take j)).length) = bl (encS base 12 r) ++ rowL base (rs.drop (j + 1)) := by
            rw [← List.drop_drop, ← List.drop_drop, d1, ← bl_length, List.drop_left, hsp, List.drop_left]
          obtain ⟨k, hdec, hsm, hkz⟩ := dec_enc he d1 (by omega) d2
          have hD := fun W => decode_any X ((12 + base.size + (rowL base (rs.take j)).length : Nat) : Int) W (by omega) (by
            have := congrArg List.length hsp
            rw [List.length_append] at this
            have := HXl.out
            omega)
          rw [hdec] at hD
          have HD := hide hD
          have hS := fun W => refsame_any k r.n W (by unfold maxLen; omega) hr.1
          rw [hsm] at hS
          have HS := hide hS
          have hnx : 12 + base.size + (rowL base (rs.take j)).length + (encS base 12 r).size = 12 + base.size + (rowL base (rs.take (j + 1))).length := by
            rw [hrow, List.length_append, bl_length]; omega
          rw [hnx] at HD
          have hPl : 12 + base.size + (rowL base (rs.take j)).length ≤ 1000000 := by
            have := congrArg List.length hsp
            rw [List.length_append] at this
            have := HXl.out
            omega
          clear hD hS d1 d2 hdec hsm he hsp hrow hnx hg
          unfold decV recV at HD
          generalize 12 + base.size + (rowL base (rs.take j)).length = P at *
          generalize hQ : 12 + base.size + (rowL base (rs.take (j + 1))).length = Q at *
          have HQ := hide hQ
          clear hQ
          go_wp2_with fail
          refine (HD.out _).mono ?_
          rintro e w5 ⟨rfl, k5⟩
          have B := Blk.made w5 #[.string k, .int .i64 r.t, .int .i64 r.c, .int .i64 r.l, .string r.d] 24
          have k6 := k5.alloc (.cells #[.string k, .int .i64 r.t, .int .i64 r.c, .int .i64 r.l, .string r.d] 24)
          replace C := C.keeps k6
          have K6 := K.trans k6
          clear k5 HD
          go_wp2_with fail
          generalize w5.alloc (.cells #[.string k, .int .i64 r.t, .int .i64 r.c, .int .i64 r.l, .string r.d] 24) = W5 at *
          generalize w5.heap.size = G at *
          have T1 : Ten b o r G k W5.drew := ⟨C.1, C.2.1, C.2.2.1, C.2.2.2.1, C.2.2.2.2.1, B.cell 0, B.cell 1, B.cell 2, B.cell 3, B.cell 4⟩
          have TK : Hid (∀ w', Keeps W5.drew w' → Ten b o r G k w') := fun w' hk => Ten.keeps T1 C.2.2.2.2.2 B.lt hk
          have K7 := K6.drew
          have K8 := k6.drew
          go_region_held3 (fun w' => w'.cell? ⟨b, o, none⟩ = some (.string r.n) ∧ w'.cell? ⟨b, o + 1, none⟩ = some (.int .i64 r.t) ∧ w'.cell? ⟨b, o + 2, none⟩ = some (.int .i64 r.c) ∧ w'.cell? ⟨b, o + 3, none⟩ = some (.int .i64 r.l) ∧ w'.cell? ⟨b, o + 4, none⟩ = some (.string r.d) ∧ w'.cell? ⟨G, 0, none⟩ = some (.string k) ∧ w'.cell? ⟨G, 1, none⟩ = some (.int .i64 r.t) ∧ w'.cell? ⟨G, 2, none⟩ = some (.int .i64 r.c) ∧ w'.cell? ⟨G, 3, none⟩ = some (.int .i64 r.l) ∧ w'.cell? ⟨G, 4, none⟩ = some (.string r.d)) ((first | exact T1 | exact TK.out _ (by assumption))) ((go_at_call 18; refine (HS.out _).mono ?_; rintro e w7 ⟨rfl, k7⟩))
          go_wp2
          go_roundw
          case rel =>
            have HQ2 := HQ.out
            subst HQ2
            exact PlRel.mk (j + 1) (by omega) (hk2.trans (K8.trans k7))
          case measure => simp [intOf]; omega
        · have i2 : ¬ (j : Int) < (rs.length : Int) := by omega
          have hjn : j = rs.length := by omega
          subst hjn
          have e1 : ((12 + base.size + (rowL base (rs.take rs.length)).length : Nat) : Int) = (X.size : Int) := by rw [List.take_length, ← HXl.out]
          rw [e1]
          clear hlt e1
          go_wp2_with fail
          refine (live6_any _).mono ?_
          rintro e w3 ⟨rfl, k3⟩
          go_wp2
          go_ret
          exact ⟨rfl, K.trans k3⟩
end Go.Proofs.Ythoominldliphaa
