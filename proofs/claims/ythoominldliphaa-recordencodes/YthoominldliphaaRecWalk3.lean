/- What aheadOfTime, Encode, TTL of layer 6, and the document's, answer, for every input. -/
import Derived.Test.YthoominldliphaaRecWalk1
import Derived.Deep.RegionHeld3
namespace Go.Proofs.Ythoominldliphaa
open Go.RowKit

def aheadS (base : ByteArray) (p : Int) (r : Rec) : ByteArray := if encOk base p r = true then wrS base p r.n ++ Oct.putS r.t 2 ++ Oct.putS r.c 2 else ⟨#[]⟩
theorem ahead_no {base : ByteArray} {p : Int} {r : Rec} (h : encOk base p r = false) : aheadS base p r = ⟨#[]⟩ := by rw [aheadS, if_neg (by rw [h]; decide)]
theorem ahead_yes {base : ByteArray} {p : Int} {r : Rec} (h : encOk base p r = true) : aheadS base p r = wrS base p r.n ++ Oct.putS r.t 2 ++ Oct.putS r.c 2 := if_pos h
theorem put_len (n k : Int) : (Oct.putS n k).size ≤ 4 := putS_size n k

set_option maxHeartbeats 2000000 in
theorem ahead_any (base : ByteArray) (p : Int) (r : Rec) (w : World) (hb : base.size ≤ maxLen) (hn : r.n.size ≤ maxLen) (hd : r.d.size ≤ maxLen) :
    Calls Try.prog 32 #[.string base, .int .i64 p, recV r] w fun e w' => e = .returned (.string (aheadS base p r)) ∧ Keeps w w' := by
  have HC := hide (fun W => rcheck_any r W hn hd)
  have HW := hide (fun W => write_any base p r.n W hb hn)
  have B0 := Box5.made w (.string r.n) (.int .i64 r.t) (.int .i64 r.c) (.int .i64 r.l) (.string r.d) 24
  have K := (Keeps.refl w).alloc (.cells #[.string r.n, .int .i64 r.t, .int .i64 r.c, .int .i64 r.l, .string r.d] 24)
  cases h1 : recOk r
  · have HF : Hid (aheadS base p r = ⟨#[]⟩) := ahead_no (by simp [encOk, h1])
    rw [h1] at HC
    unfold recV at *
    go_enter Try.func32, Try.ntmps32
    go_wp2_with fail
    refine (HC.out _).mono ?_
    rintro e wk ⟨rfl, k1⟩
    go_wp2
    go_ret
    exact ⟨ret_str HF.out.symm, K.trans k1⟩
  rw [h1] at HC
  cases h2 : Cm.wrOk (bl base) p (bl r.n)
  · have HF : Hid (aheadS base p r = ⟨#[]⟩) := ahead_no (by simp [encOk, h2])
    rw [wr_none.2 h2] at HW
    unfold recV at *
    go_enter Try.func32, Try.ntmps32
    go_wp2_with fail
    refine (HC.out _).mono ?_
    rintro e wk ⟨rfl, k1⟩
    obtain ⟨c0, c1, c2, c3, c4, c5⟩ := B0.keeps k1
    go_wp2_with fail
    refine (HW.out _).mono ?_
    rintro e wk2 ⟨rfl, k2⟩
    go_wp2
    go_ret
    exact ⟨ret_str HF.out.symm, (K.trans k1).trans k2⟩
  · have HF := hide (ahead_yes (base := base) (p := p) (r := r) (by simp [encOk, h1, h2]))
    have hw := wr_pos h2
    have hne : ((wrS base p r.n).toList == []) = false := by
      rw [toList_bl, beq_eq_false_iff_ne]
      intro h
      have hl := hw.1
      rw [← bl_length, h] at hl
      exact absurd hl (by decide)
    generalize wrS base p r.n = X at *
    have s1 := put_len r.t 2
    have s2 := put_len r.c 2
    have a1 : ∀ w, (Op.stringOp .add X (Oct.putS r.t 2)).run Try.prog w = .ok (.string (X ++ Oct.putS r.t 2)) w := fun w => run_string_add_sum w _ _ (by omega)
    have a2 : ∀ w, (Op.stringOp .add (X ++ Oct.putS r.t 2) (Oct.putS r.c 2)).run Try.prog w = .ok (.string (X ++ Oct.putS r.t 2 ++ Oct.putS r.c 2)) w := fun w => run_string_add_sum w _ _ (by rw [ByteArray.size_append]; omega)
    unfold recV at *
    go_enter Try.func32, Try.ntmps32
    go_wp2_with fail
    refine (HC.out _).mono ?_
    rintro e wk ⟨rfl, k1⟩
    obtain ⟨c0, c1, c2, c3, c4, c5⟩ := B0.keeps k1
    go_wp2_with fail
    refine (HW.out _).mono ?_
    rintro e wk2 ⟨rfl, k2⟩
    have B2 := (B0.keeps k1).keeps k2
    clear c0 c1 c2 c3 c4 c5 B0
    go_wp2_with fail
    generalize w.heap.size = G at *
    have KK : Keeps w wk2.drew := ((K.trans k1).trans k2).drew
    have T1 : Box5 G (.string r.n) (.int .i64 r.t) (.int .i64 r.c) (.int .i64 r.l) (.string r.d) wk2.drew := B2
    go_region_held3 (fun w' => w'.cell? ⟨G, 0, none⟩ = some (.string r.n) ∧ w'.cell? ⟨G, 1, none⟩ = some (.int .i64 r.t) ∧ w'.cell? ⟨G, 2, none⟩ = some (.int .i64 r.c) ∧ w'.cell? ⟨G, 3, none⟩ = some (.int .i64 r.l) ∧ w'.cell? ⟨G, 4, none⟩ = some (.string r.d) ∧ G < w'.heap.size) ((first | exact T1 | exact Box5.keeps T1 (by assumption) | exact Box5.keeps (Box5.keeps T1 (by assumption)) (by assumption) | exact Box5.keeps (Box5.keeps (Box5.keeps T1 (by assumption)) (by assumption)) (by assumption) | exact Box5.keeps (Box5.keeps (Box5.keeps (Box5.keeps T1 (by assumption)) (by assumption)) (by assumption)) (by assumption))) ((go_at_call 33; refine (put_any _ _ _).mono ?_; rintro e w5 ⟨rfl, k5⟩; replace KK := Keeps.trans KK k5))
    go_wp2
    go_ret
    exact ⟨ret_str HF.out.symm, KK⟩

theorem enc_no {base : ByteArray} {p : Int} {r : Rec} (h : encOk base p r = false) : encS base p r = ⟨#[]⟩ ∧ ttlAt base p r = -1 := by
  constructor
  · rw [encS, if_neg (by rw [h]; decide)]
  · rw [ttlAt, if_neg (by rw [h]; decide)]
theorem app_assoc (a b c : ByteArray) : a ++ (b ++ c) = a ++ b ++ c := bl_inj (by simp [bl_append])
theorem enc_yes {base : ByteArray} {p : Int} {r : Rec} (h : encOk base p r = true) : encS base p r = aheadS base p r ++ Oct.putS r.l 4 ++ Oct.putS r.d.size 2 ++ r.d ∧ ttlAt base p r = (aheadS base p r).size ∧ (aheadS base p r).size ≤ 263 ∧ ((aheadS base p r).toList == []) = false ∧ encS base p r = wrS base p r.n ++ Oct.putS r.t 2 ++ Oct.putS r.c 2 ++ Oct.putS r.l 4 ++ Oct.putS r.d.size 2 ++ r.d := by
  have hs : recOk r = true ∧ Cm.wrOk (bl base) p (bl r.n) = true := by simpa [encOk] using h
  have hw := wr_pos hs.2
  have hr := (recOk_spec r).1 hs.1
  have p1 : (Oct.putS r.t 2).size = 2 := by
    rw [Oct.putS_yes _ _ (by rw [Oct.putOk_spec]; refine ⟨by decide, by decide, hr.2.1.1, ?_⟩; have := hr.2.1.2; simp; omega), ← bl_length, bl_mk, Oct.beL_length]; rfl
  have p2 : (Oct.putS r.c 2).size = 2 := by
    rw [Oct.putS_yes _ _ (by rw [Oct.putOk_spec]; refine ⟨by decide, by decide, hr.2.2.1.1, ?_⟩; have := hr.2.2.1.2; simp; omega), ← bl_length, bl_mk, Oct.beL_length]; rfl
  have hz : (aheadS base p r).size = (wrS base p r.n).size + 4 := by rw [ahead_yes h, ByteArray.size_append, ByteArray.size_append, p1, p2]
  have he : encS base p r = wrS base p r.n ++ Oct.putS r.t 2 ++ Oct.putS r.c 2 ++ Oct.putS r.l 4 ++ Oct.putS r.d.size 2 ++ r.d := by
    rw [encS, if_pos h, recB]; simp only [app_assoc]
  refine ⟨?_, ?_, by omega, ?_, he⟩
  · rw [he, ahead_yes h]
  · rw [ttlAt, if_pos h, hz]; simp
  · rw [toList_bl, beq_eq_false_iff_ne]
    intro hx
    have := bl_length (aheadS base p r)
    rw [hx] at this
    simp at this
    omega

set_option maxHeartbeats 2000000 in
theorem encode_any (base : ByteArray) (p : Int) (r : Rec) (w : World) (hb : base.size ≤ maxLen) (hn : r.n.size ≤ maxLen) (hd : r.d.size ≤ 1000000) :
    Calls Try.prog 13 #[.string base, .int .i64 p, recV r] w fun e w' => e = .returned (.string (encS base p r)) ∧ Keeps w w' := by
  have HC := hide (fun W => ahead_any base p r W hb hn (by unfold maxLen; omega))
  have B0 := Box5.made w (.string r.n) (.int .i64 r.t) (.int .i64 r.c) (.int .i64 r.l) (.string r.d) 24
  have K := (Keeps.refl w).alloc (.cells #[.string r.n, .int .i64 r.t, .int .i64 r.c, .int .i64 r.l, .string r.d] 24)
  cases h1 : encOk base p r
  · have HF := hide (enc_no h1).1
    rw [ahead_no h1] at HC
    unfold recV at *
    go_enter Try.func13, Try.ntmps13
    go_wp2_with fail
    refine (HC.out _).mono ?_
    rintro e wk ⟨rfl, k1⟩
    go_wp2
    go_ret
    exact ⟨ret_str HF.out.symm, K.trans k1⟩
  · obtain ⟨e1, _, e3, e4, _⟩ := enc_yes h1
    have HF := hide e1
    clear e1
    generalize aheadS base p r = X at *
    have s1 := put_len r.l 4
    have s2 := put_len r.d.size 2
    have a1 : ∀ w, (Op.stringOp .add X (Oct.putS r.l 4)).run Try.prog w = .ok (.string (X ++ Oct.putS r.l 4)) w := fun w => run_string_add_sum w _ _ (by omega)
    have a2 : ∀ w, (Op.stringOp .add (X ++ Oct.putS r.l 4) (Oct.putS r.d.size 2)).run Try.prog w = .ok (.string (X ++ Oct.putS r.l 4 ++ Oct.putS r.d.size 2)) w := fun w => run_string_add_sum w _ _ (by rw [ByteArray.size_append]; omega)
    have a3 : ∀ w, (Op.stringOp .add (X ++ Oct.putS r.l 4 ++ Oct.putS r.d.size 2) r.d).run Try.prog w = .ok (.string (X ++ Oct.putS r.l 4 ++ Oct.putS r.d.size 2 ++ r.d)) w := fun w => run_string_add_sum w _ _ (by rw [ByteArray.size_append, ByteArray.size_append]; omega)
    unfold recV at *
    go_enter Try.func13, Try.ntmps13
    go_wp2_with fail
    refine (HC.out _).mono ?_
    rintro e wk2 ⟨rfl, k1⟩
    have B2 := B0.keeps k1
    clear B0
    have KK : Keeps w wk2.drew := (K.trans k1).drew
    go_wp2_with fail
    generalize w.heap.size = G at *
    have T1 : Box5 G (.string r.n) (.int .i64 r.t) (.int .i64 r.c) (.int .i64 r.l) (.string r.d) wk2.drew := B2
    go_region_held3 (fun w' => w'.cell? ⟨G, 0, none⟩ = some (.string r.n) ∧ w'.cell? ⟨G, 1, none⟩ = some (.int .i64 r.t) ∧ w'.cell? ⟨G, 2, none⟩ = some (.int .i64 r.c) ∧ w'.cell? ⟨G, 3, none⟩ = some (.int .i64 r.l) ∧ w'.cell? ⟨G, 4, none⟩ = some (.string r.d) ∧ G < w'.heap.size) ((first | exact T1 | exact Box5.keeps T1 (by assumption) | exact Box5.keeps (Box5.keeps T1 (by assumption)) (by assumption) | exact Box5.keeps (Box5.keeps (Box5.keeps T1 (by assumption)) (by assumption)) (by assumption) | exact Box5.keeps (Box5.keeps (Box5.keeps (Box5.keeps T1 (by assumption)) (by assumption)) (by assumption)) (by assumption))) ((go_at_call 33; refine (put_any _ _ _).mono ?_; rintro e w5 ⟨rfl, k5⟩; replace KK := Keeps.trans KK k5))
    go_wp2
    go_ret
    exact ⟨ret_str HF.out.symm, KK⟩

set_option maxHeartbeats 2000000 in
theorem ttl_any (base : ByteArray) (p : Int) (r : Rec) (w : World) (hb : base.size ≤ maxLen) (hn : r.n.size ≤ maxLen) (hd : r.d.size ≤ maxLen) :
    Calls Try.prog 15 #[.string base, .int .i64 p, recV r] w fun e w' => e = .returned (.int .i64 (ttlAt base p r)) ∧ Keeps w w' := by
  have HC := hide (fun W => ahead_any base p r W hb hn hd)
  have K := (Keeps.refl w).alloc (.cells #[.string r.n, .int .i64 r.t, .int .i64 r.c, .int .i64 r.l, .string r.d] 24)
  cases h1 : encOk base p r
  · have HF := hide (enc_no h1).2
    rw [ahead_no h1] at HC
    unfold recV at *
    go_enter Try.func15, Try.ntmps15
    go_wp2_with fail
    refine (HC.out _).mono ?_
    rintro e wk ⟨rfl, k1⟩
    go_wp2
    go_ret
    exact ⟨ret_int HF.out.symm, K.trans k1⟩
  · obtain ⟨_, e2, _, e4, _⟩ := enc_yes h1
    have HF := hide e2
    clear e2
    generalize aheadS base p r = X at *
    unfold recV at *
    go_enter Try.func15, Try.ntmps15
    go_wp2_with fail
    refine (HC.out _).mono ?_
    rintro e wk ⟨rfl, k1⟩
    go_wp2
    go_ret
    exact ⟨ret_int HF.out.symm, K.trans k1⟩
end Go.Proofs.Ythoominldliphaa
