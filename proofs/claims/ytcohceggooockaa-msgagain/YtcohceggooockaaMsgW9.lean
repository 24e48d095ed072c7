/- What appendQuestions, appendRecords of layer 8 answer. No condition. -/
import Derived.Test.YtcohceggooockaaMsgW8
namespace Go.Proofs.Ytcohceggooockaa
open Go.RowKit

def qpre (qs : List Qn) (j : Nat) : List UInt8 := (qs.take j).flatMap fun q => bl (qnS q)
theorem qpre_step {qs : List Qn} {j : Nat} (h : j < qs.length) : qpre qs (j + 1) = qpre qs j ++ (bl qs[j].n ++ bl (Oct.putS qs[j].t 2) ++ bl (Oct.putS qs[j].c 2)) := by
  rw [qpre, List.take_succ_eq_append_getElem h, List.flatMap_append]
  simp [qpre, qnS, bl_append]
theorem qpre_len {qs : List Qn} (h : ∀ q ∈ qs, q.n.size ≤ 255) : ∀ j, j ≤ qs.length → (qpre qs j).length ≤ 263 * j
  | 0, _ => by simp [qpre]
  | j + 1, hj => by
    have := qpre_len h j (by omega)
    have h1 := h _ (List.getElem_mem (show j < qs.length by omega))
    have h2 := putS_size qs[j].t 2
    have h3 := putS_size qs[j].c 2
    rw [qpre_step (by omega)]
    simp only [List.length_append, bl_length]
    omega
theorem appQ_pre (b : ByteArray) (qs : List Qn) : bl (appQ b qs) = bl b ++ qpre qs qs.length := by
  rw [qpre, List.take_length, appQ]
  induction qs generalizing b with
  | nil => simp
  | cons q r ih => rw [List.foldl_cons, ih, bl_append, List.flatMap_cons, List.append_assoc]

/-- The two numbers of a question that was boxed. -/
def QBox (G : Nat) (t c : Int) (w : World) : Prop := w.cell? ⟨G, 1, none⟩ = some (.int .i64 t) ∧ w.cell? ⟨G, 2, none⟩ = some (.int .i64 c) ∧ G < w.heap.size

set_option maxHeartbeats 8000000 in
set_option maxRecDepth 100000 in
theorem appQs_any (B : Nat) (v : Value) (l : List UInt8) (u : Value) (qs : List Qn) (w : World) (hr : ReadRow w u 3 (qs.map qnL)) (hrB : 0 < qs.length → ∀ b, u.ownBlock = some b → b < B) (hown : Owns w B v l) (hB : B ≤ w.heap.size) (hl : l.length ≤ 1000000) (hq : ∀ q ∈ qs, q.n.size ≤ 255) (hn : qs.length ≤ 65535) :
    Calls Try.prog 34 #[v, u] w (AppEnd8 w B l (qpre qs qs.length)) := by
  obtain ⟨a, cap, hu⟩ := hr.len
  rw [List.length_map] at hu
  subst hu
  have HL := hide (qpre_len hq)
  have HQ := hide hq
  clear hq
  go_enter Try.func34, Try.ntmps34
  go_wp2
  go_loopw [0, 9] (fun b i wr => ∃ j : Nat, j ≤ qs.length ∧ i = .int .i64 j ∧ Owns wr B b (l ++ qpre qs j) ∧ Below B w wr ∧ Oth w wr) (fun _ i _ => qs.length - (intOf i).toNat)
  case atStart => exact ⟨0, by omega, rfl, by simp only [qpre, List.take_zero, List.flatMap_nil, List.append_nil]; exact hown, Below.refl _ _, Oth.refl _⟩
  case round =>
    obtain ⟨j, hj, rfl, hown1, hb, ho⟩ := hrel
    clear hown
    have hs := hb.size
    by_cases hlt : j < qs.length
    · have i2 : (j : Int) < (qs.length : Int) := by omega
      have i0 : (0 : Int) ≤ (j : Int) := by omega
      obtain ⟨b, off, rfl, hblt, _⟩ := hr.parts (by rw [List.length_map]; omega)
      have hbB := hrB (by omega) b rfl
      obtain ⟨c0, c1, c2⟩ := row3 hr hlt
      replace c0 := (Below.cell hb (p := ⟨b, off + j * 3, none⟩) hbB).trans c0
      replace c1 := (Below.cell hb (p := ⟨b, off + j * 3 + 1, none⟩) hbB).trans c1
      replace c2 := (Below.cell hb (p := ⟨b, off + j * 3 + 2, none⟩) hbB).trans c2
      have hlen := HL.out j hj
      have hx := HQ.out _ (List.getElem_mem hlt)
      have HS := hide (qpre_step hlt)
      generalize hoo : off + j * 3 = o at *
      generalize qs[j] = q at *
      have hp1 := putS_size q.t 2
      have hp2 := putS_size q.c 2
      have B1 := Blk.made wr #[.string q.n, .int .i64 q.t, .int .i64 q.c] 42
      have O1 := hown1.alloc (.cells #[.string q.n, .int .i64 q.t, .int .i64 q.c] 42)
      have b1 := hb.trans (Below.mono ((Keeps.refl wr).alloc (.cells #[.string q.n, .int .i64 q.t, .int .i64 q.c] 42)) (Nat.le_trans hB hs))
      have o1 := ho.trans ((Keeps.refl wr).alloc (.cells #[.string q.n, .int .i64 q.t, .int .i64 q.c] 42)).oth
      generalize hY : qpre qs j = Y at *
      clear hown1 hb ho hY hr
      replace B1 := hide B1
      replace b1 := hide b1
      replace o1 := hide o1
      go_wp2_with (at_builtin; refine wpList_appStr _ rfl _ _ rfl B _ _ rfl O1 q.n rfl ?c1 ?c2 ?_)
      case c1 => simp only [List.length_append]; omega
      case c2 => simp; omega
      intro v' w2 O2 b2 o2
      replace b2 := hide (b1.out.trans b2)
      have B2 := hide (B1.out.oth o2 (by decide))
      replace o2 := hide (o1.out.trans o2)
      clear O1 b1 B1 o1 c0 c1 c2
      generalize wr.heap.size = G at *
      go_wp2_with fail
      have T : QBox G q.t q.c w2.drew := ⟨B2.out.cell 1, B2.out.cell 2, B2.out.lt⟩
      have HB : Hid (∀ w', Oth w2.drew w' → QBox G q.t q.c w') := fun w' h => by
        have := B2.out.drew.oth h (by decide)
        exact ⟨this.cell 1, this.cell 2, this.lt⟩
      have O3 := O2.drew
      have b3 := b2.out.drew
      have o3 : Oth w w2.drew := o2.out.drew
      have oo : Oth w2.drew w2.drew := Oth.refl _
      have hs3 := b3.size
      have hl3 : (l ++ (Y ++ q.n.data.toList)).length ≤ 1000000 + 263 * 65535 + 255 := by simp only [List.length_append]; simp; omega
      clear O2 b2 o2 B2
      go_region_held3 (fun w' => w'.cell? ⟨G, 1, none⟩ = some (.int .i64 q.t) ∧ w'.cell? ⟨G, 2, none⟩ = some (.int .i64 q.c) ∧ G < w'.heap.size) (exact T) ((go_at_call 59; refine (appNum_any B _ _ _ _ O3 (by omega) (by first | omega | (rw [List.length_append, bl_length]; omega))).mono ?_; rintro e w5 ⟨v5, rfl, O5, b5, o5⟩; replace oo := oo.trans o5; replace T := HB.out _ oo; replace O3 := O5; replace b3 := b3.trans b5; replace o3 := o3.trans o5; replace hs3 := b3.size; clear O5 b5 o5))
      replace O3 := hide O3
      replace b3 := hide b3
      replace o3 := hide o3
      clear T HB oo
      go_wp2
      go_roundw
      case rel =>
        refine ⟨j + 1, by omega, by go_num, ?_, b3.out, o3.out⟩
        have := O3.out
        rw [HS.out]
        rw [show q.n.data.toList = bl q.n from rfl] at this
        simpa only [List.append_assoc] using this
      case measure => simp [intOf]; omega
    · obtain rfl : j = qs.length := by omega
      generalize qpre qs qs.length = Y at *
      go_wp2
      go_ret
      exact AppEnd8.mk hown1 hb ho

/-- What comes of records that are appended. -/
def RsEnd (w : World) (B : Nat) (x : ByteArray) (e : Ending) (w' : World) : Prop := ∃ v', e = .returned v' ∧ Owns w' B v' (bl x) ∧ Below B w w' ∧ Oth w w'
theorem RsEnd.mk {w w' : World} {B : Nat} {x : ByteArray} {v : Value} (h : Owns w' B v (bl x)) (hb : Below B w w') (ho : Oth w w') : RsEnd w B x (.returned v) w' := ⟨v, rfl, h, hb, ho⟩
theorem size_alloc (w : World) (o : Obj) : (w.alloc o).heap.size = w.heap.size + 1 := by simp
theorem enc_len (base : ByteArray) (r : Rec) (hd : r.d.size ≤ 65535) : (encS base 12 r).size ≤ 65808 := by
  unfold encS
  split
  · rename_i h
    have h2 : Cm.wrOk (bl base) 12 (bl r.n) = true := by
      simp only [encOk, Bool.and_eq_true] at h
      exact h.2
    have h3 := (wr_pos h2).2
    have p1 := putS_size r.t 2
    have p2 := putS_size r.c 2
    have p3 := putS_size r.l 4
    have p4 := putS_size r.d.size 2
    simp only [recB, ByteArray.size_append]
    omega
  · exact Nat.zero_le _

set_option maxHeartbeats 8000000 in
set_option maxRecDepth 100000 in
theorem appRs_any (B : Nat) (v : Value) (b0 base : ByteArray) (u : Value) (rs : List Rec) (w : World) (hr : ReadRow w u 5 (rs.map recL8)) (hrB : 0 < rs.length → ∀ b, u.ownBlock = some b → b < B) (hown : Owns w B v (bl b0)) (hB : B ≤ w.heap.size) (hl : b0.size ≤ 50000000) (hbs : base.size ≤ maxLen) (hq : ∀ r ∈ rs, r.n.size ≤ maxLen ∧ r.d.size ≤ 65535) (hn : rs.length ≤ 65535) :
    Calls Try.prog 36 #[v, .string base, u] w fun e w' => ∃ v', e = .returned v' ∧ Owns w' B v' (bl (appR base b0 rs)) ∧ Below B w w' ∧ Oth w w' := by
  obtain ⟨a, cap, hu⟩ := hr.len
  rw [List.length_map] at hu
  subst hu
  have HQ := hide hq
  clear hq
  change Calls _ _ _ _ (fun e w' => RsEnd w B (appR base b0 rs) e w')
  go_enter Try.func36, Try.ntmps36
  go_wp2
  go_loopw [0, 11] (fun b i wr => ∃ (j : Nat) (cur : ByteArray), j ≤ rs.length ∧ i = .int .i64 j ∧ Owns wr B b (bl cur) ∧ Hid (appR base b0 rs = appR base cur (rs.drop j)) ∧ cur.size ≤ 60000000 ∧ Below B w wr ∧ Oth w wr) (fun _ i _ => rs.length - (intOf i).toNat)
  case atStart => exact ⟨0, b0, by omega, rfl, hown, by simp [Hid], by omega, Below.refl _ _, Oth.refl _⟩
  case round =>
    obtain ⟨j, cur, hj, rfl, hown1, HA, hcur, hb, ho⟩ := hrel
    clear hown
    have hs := hb.size
    by_cases hlt : j < rs.length
    · have i2 : (j : Int) < (rs.length : Int) := by omega
      have i0 : (0 : Int) ≤ (j : Int) := by omega
      obtain ⟨b, off, rfl, hblt, _⟩ := hr.parts (by rw [List.length_map]; omega)
      have hbB := hrB (by omega) b rfl
      obtain ⟨c0, c1, c2, c3, c4⟩ := row5 hr hlt
      replace c0 := (Below.cell hb (p := ⟨b, off + j * 5, none⟩) hbB).trans c0
      replace c1 := (Below.cell hb (p := ⟨b, off + j * 5 + 1, none⟩) hbB).trans c1
      replace c2 := (Below.cell hb (p := ⟨b, off + j * 5 + 2, none⟩) hbB).trans c2
      replace c3 := (Below.cell hb (p := ⟨b, off + j * 5 + 3, none⟩) hbB).trans c3
      replace c4 := (Below.cell hb (p := ⟨b, off + j * 5 + 4, none⟩) hbB).trans c4
      have hx := HQ.out _ (List.getElem_mem hlt)
      have hdr : rs.drop j = rs[j] :: rs.drop (j + 1) := List.drop_eq_getElem_cons hlt
      rw [hdr] at HA
      have HC := hide (fun W => encode_any base 12 rs[j] W hbs hx.1 (by omega))
      have hel := enc_len base rs[j] hx.2
      have hlo : ∀ ty, (Builtin.len_ #[40] ty #[u0]).run Try.prog (wr.alloc (.cells #[.string rs[j].n, .int .i64 rs[j].t, .int .i64 rs[j].c, .int .i64 rs[j].l, .string rs[j].d] 44)) = .ok (goInt (bl cur).length) _ := fun ty => (hown1.alloc _).len ty
      rw [bl_length] at hlo
      generalize hoo : off + j * 5 = o at *
      clear hdr hr
      generalize rs[j] = r at *
      have O1 := hown1.alloc (.cells #[.string r.n, .int .i64 r.t, .int .i64 r.c, .int .i64 r.l, .string r.d] 44)
      have b1 := hb.trans (Below.mono ((Keeps.refl wr).alloc (.cells #[.string r.n, .int .i64 r.t, .int .i64 r.c, .int .i64 r.l, .string r.d] 44)) (Nat.le_trans hB hs))
      have o1 := ho.trans ((Keeps.refl wr).alloc (.cells #[.string r.n, .int .i64 r.t, .int .i64 r.c, .int .i64 r.l, .string r.d] 44)).oth
      clear hown1 hb ho
      replace b1 := hide b1
      replace o1 := hide o1
      replace O1 := hide O1
      by_cases hlong : (65535 : Int) < (cur.size : Int)
      · have HE := hide (HA.out.trans (appR_long base cur _ (by omega)))
        clear HA HC
        go_wp2
        go_ret
        exact RsEnd.mk (by rw [HE.out]; exact O1.out) b1.out o1.out
      · have HE := hide (HA.out.trans (appR_step base cur r _ (by omega)))
        clear HA
        unfold recV at HC
        go_wp2_with fail
        refine (HC.out _).mono ?_
        rintro e w5 ⟨rfl, k5⟩
        have hs5 := k5.size
        rw [size_alloc] at hs5
        have O5 := O1.out.below k5
        have b5 := b1.out.trans (Below.mono k5 (by rw [size_alloc]; omega))
        have o5 := o1.out.trans k5.oth
        clear O1 b1 o1 k5 HC hlo
        replace b5 := hide b5
        replace o5 := hide o5
        have HX := hide (show bl (cur ++ encS base 12 r) = bl cur ++ bl (encS base 12 r) from bl_append _ _)
        have hX2 : (cur ++ encS base 12 r).size ≤ 60000000 := by rw [ByteArray.size_append]; omega
        generalize hXX : cur ++ encS base 12 r = cur2 at *
        clear hXX
        generalize encS base 12 r = X at *
        go_wp2_with (at_builtin; refine wpList_appStr _ rfl _ _ rfl B _ _ rfl O5 X rfl ?c1 ?c2 ?_)
        case c1 => rw [bl_length]; omega
        case c2 => omega
        intro v' w6 O6 b6 o6
        replace O6 := hide O6
        replace b6 := hide (b5.out.trans b6)
        replace o6 := hide (o5.out.trans o6)
        clear O5 b5 o5
        go_wp2
        go_roundw
        case rel => exact ⟨j + 1, cur2, by omega, by go_num, by rw [HX.out]; exact O6.out, HE, hX2, b6.out, o6.out⟩
        case measure => simp [intOf]; omega
    · obtain rfl : j = rs.length := by omega
      rw [List.drop_length] at HA
      have HE : Hid (appR base b0 rs = cur) := HA.out
      go_wp2
      go_ret
      exact RsEnd.mk (by rw [HE.out]; exact hown1) hb ho
end Go.Proofs.Ytcohceggooockaa
