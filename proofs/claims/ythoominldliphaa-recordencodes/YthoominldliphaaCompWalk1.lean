/- What comp.follow and comp.Read answer, for every input. -/
import Derived.Test.YthoominldliphaaNameWalk1
import Derived.Test.YthoominldliphaaOctWalk2
import Derived.Test.YthoominldliphaaOctMath2
import Derived.Test.YthoominldliphaaBytes
import Derived.Test.YthoominldliphaaCompMath
namespace Go.Proofs.Ythoominldliphaa
open Go.RowKit

theorem ret_str_int_int {a b : ByteArray} {c d e f : Int} (h : a = b) (g : c = d) (k : e = f) : Ending.returned (.tuple #[.string a, .int .i64 c, .int .i64 e]) = .returned (.tuple #[.string b, .int .i64 d, .int .i64 f]) := by rw [h, g, k]

theorem takeS_bl (s : ByteArray) (p k : Nat) (h : p + k ≤ s.size) : Oct.takeOk s p k = true ∧ bl (Oct.takeS s p k) = ((bl s).drop p).take k := by
  have h1 : Oct.takeOk s p k = true := by rw [Oct.takeOk_spec]; omega
  refine ⟨h1, ?_⟩
  rw [Oct.takeS_yes _ _ _ h1, bl_extract]
  congr 1
  omega
theorem takeNo (s : ByteArray) (p k : Nat) (h : ¬ p + k ≤ s.size) : Oct.takeOk s p k = false := by
  rw [← Bool.not_eq_true, Oct.takeOk_spec]; omega
theorem get1 (s : ByteArray) (p : Nat) (h : p < s.size) : Oct.getOk s p 1 = true ∧ Oct.getN s p 1 = (s[p].toNat : Int) := by
  obtain ⟨h1, h2⟩ := takeS_bl s p 1 (by omega)
  have h3 : Oct.getOk s p 1 = true := by rw [Oct.getOk_spec]; exact ⟨by omega, h1⟩
  refine ⟨h3, ?_⟩
  rw [Oct.getN, if_pos h3]
  show Oct.numL (bl (Oct.takeS s p (1 : Nat))) = _
  rw [h2, bl_drop s p h]
  simp [Oct.numL]
theorem get1_no (s : ByteArray) (p : Int) (h : p < 0 ∨ (s.size : Int) ≤ p) : Oct.getOk s p 1 = false := by
  rw [← Bool.not_eq_true, Oct.getOk_spec, Oct.takeOk_spec]; omega
theorem get2 (s : ByteArray) (p : Nat) (h : p + 1 < s.size) : Oct.getOk s p 2 = true ∧ Oct.getN s p 2 = (s[p].toNat : Int) * 256 + (s[p + 1].toNat : Int) := by
  obtain ⟨h1, h2⟩ := takeS_bl s p 2 (by omega)
  have h3 : Oct.getOk s p 2 = true := by rw [Oct.getOk_spec]; exact ⟨by omega, h1⟩
  refine ⟨h3, ?_⟩
  rw [Oct.getN, if_pos h3]
  show Oct.numL (bl (Oct.takeS s p (2 : Nat))) = _
  rw [h2, bl_drop s p (by omega), bl_drop s (p + 1) h]
  simp [Oct.numL]
  omega
theorem get2_no (s : ByteArray) (p : Nat) (h : s.size ≤ p + 1) : Oct.getOk s p 2 = false := by
  rw [← Bool.not_eq_true, Oct.getOk_spec, Oct.takeOk_spec]; omega
theorem bl_at (s : ByteArray) (p : Nat) (h : p < s.size) : (bl s)[p]? = some s[p] := by
  rw [List.getElem?_eq_getElem (by rw [bl_length]; exact h)]; rfl

theorem bl_append (a b : ByteArray) : bl (a ++ b) = bl a ++ bl b := by simp [bl]
theorem cat_mk (a b : List UInt8) : (⟨a.toArray⟩ : ByteArray) ++ ⟨b.toArray⟩ = ⟨(a ++ b).toArray⟩ := by
  apply bl_inj
  rw [bl_append, bl_mk, bl_mk, bl_mk]
theorem take1 (s : ByteArray) (p c : Nat) (h : p + 1 + c ≤ s.size) : Oct.takeOk s p (1 + (c : Int)) = true ∧ bl (Oct.takeS s p (1 + (c : Int))) = ((bl s).drop p).take (1 + c) ∧ (Oct.takeS s p (1 + (c : Int))).size = 1 + c := by
  have h1 := takeS_bl s p (1 + c) (by omega)
  rw [Int.natCast_add] at h1
  refine ⟨h1.1, h1.2, ?_⟩
  rw [← bl_length]
  show (bl (Oct.takeS s p (((1 : Nat) : Int) + (c : Int)))).length = _
  rw [h1.2, List.length_take, List.length_drop, bl_length]
  omega
theorem take1_no (s : ByteArray) (p c : Nat) (h : ¬ p + 1 + c ≤ s.size) : Oct.takeOk s p (1 + (c : Int)) = false := by
  rw [← Bool.not_eq_true, Oct.takeOk_spec]; omega

theorem follow_cut (s : ByteArray) (p : Nat) (q : Int) (w : World) (hs : s.size ≤ maxLen) (hp : s.size ≤ p + 1) (hp2 : (p : Int) ≤ 9223372036854775807) :
    Calls Try.prog 39 #[.string s, .int .i64 p, .int .i64 q] w fun e w' => e = .returned (.tuple #[.int .i64 0, .int .i64 2]) ∧ w' = w := by
  have h1 := get2_no s p hp
  go_enter Try.func39, Try.ntmps39
  go_wp2_with (go_at_call 37; refine (get_any _ _ _ _ hs hp2).mono ?_; rintro e w' ⟨rfl, rfl⟩)
  go_ret2
  exact ⟨rfl, rfl⟩
theorem follow_bad (s : ByteArray) (p q m : Nat) (w : World) (hs : s.size ≤ maxLen) (hp : p + 1 < s.size) (hm : ((s[p].toNat : Int) * 256 + (s[p + 1].toNat : Int)) = 49152 + m) (hq : q ≤ m) :
    Calls Try.prog 39 #[.string s, .int .i64 p, .int .i64 q] w fun e w' => e = .returned (.tuple #[.int .i64 0, .int .i64 3]) ∧ w' = w := by
  obtain ⟨h1, h2⟩ := get2 s p hp
  have hc := UInt8.toNat_lt s[p]
  have hd := UInt8.toNat_lt s[p + 1]
  rw [hm] at h2
  have hs' := hs
  unfold maxLen at hs'
  go_enter Try.func39, Try.ntmps39
  go_wp2_with (go_at_call 37; refine (get_any _ _ _ _ hs (by omega)).mono ?_; rintro e w' ⟨rfl, rfl⟩)
  go_ret2
  exact ⟨rfl, rfl⟩
theorem follow_ok (s : ByteArray) (p q m : Nat) (w : World) (hs : s.size ≤ maxLen) (hp : p + 1 < s.size) (hm : ((s[p].toNat : Int) * 256 + (s[p + 1].toNat : Int)) = 49152 + m) (hq : ¬ q ≤ m) :
    Calls Try.prog 39 #[.string s, .int .i64 p, .int .i64 q] w fun e w' => e = .returned (.tuple #[.int .i64 m, .int .i64 0]) ∧ w' = w := by
  obtain ⟨h1, h2⟩ := get2 s p hp
  have hc := UInt8.toNat_lt s[p]
  have hd := UInt8.toNat_lt s[p + 1]
  have hm2 : m ≤ 65535 := by omega
  rw [hm] at h2
  have hq2 : ¬ (q : Int) ≤ Oct.getN s p 2 - 49152 := by omega
  have hb2 := Oct.getN_bound s p 2
  have H2 := hide h2
  clear hm h2
  have hs' := hs
  unfold maxLen at hs'
  go_enter Try.func39, Try.ntmps39
  go_wp2_with (go_at_call 37; refine (get_any _ _ _ _ hs (by omega)).mono ?_; rintro e w' ⟨rfl, rfl⟩)
  go_ret2
  have e1 : Oct.getN s p 2 - 49152 = (m : Int) := by have := H2.out; omega
  exact ⟨by rw [← e1]; rfl, rfl⟩

/-- A slice's length. -/
def slLen : Value → Nat | .slice _ n _ => n | _ => 0
def rrS (r : Cm.RR) : ByteArray := ⟨r.n.toArray⟩

theorem read_neg (s : ByteArray) (p : Int) (w : World) (hs : s.size ≤ maxLen) (hp : p < 0) :
    Calls Try.prog 21 #[.string s, .int .i64 p] w fun e w' => e = .returned (.tuple #[.string ⟨#[]⟩, .int .i64 0, .int .i64 2]) ∧ Keeps w w' := by
  have h1 := get1_no s p (.inl hp)
  go_enter Try.func21, Try.ntmps21
  go_wp2
  go_step3
  go_wp2
  go_step3
  go_wp2
  refine wp_loop_rounds 1 ?_
  rw [rounds_succ]
  go_wp2_with (go_at_call 37; refine (get_any _ _ _ _ hs (by omega)).mono ?_; rintro e w' ⟨rfl, rfl⟩)
  rw [Exit.noGoto_ret]
  go_ret3
  exact ⟨rfl, Keeps.refl _⟩

def RdRel (s : ByteArray) (w : World) (R : Cm.RR) (a b q nx : Value) (wr : World) : Prop :=
  ∃ (p q' nx' : Nat) (out : List UInt8), a = .int .i64 p ∧ q = .int .i64 q' ∧ nx = .int .i64 nx' ∧ Owns wr w.heap.size b out ∧ out.length ≤ 254 ∧ (p : Int) ≤ 9223372036854775807 ∧ nx' ≤ s.size ∧ R = Cm.rdm (bl s) p q' nx' out ∧ Below w.heap.size w wr
theorem RdRel.mk {s : ByteArray} {w wr : World} {R : Cm.RR} {b : Value} (p q nx : Nat) (out : List UInt8) (h1 : Owns wr w.heap.size b out) (h2 : out.length ≤ 254) (h3 : (p : Int) ≤ 9223372036854775807) (h4 : nx ≤ s.size) (h5 : R = Cm.rdm (bl s) p q nx out) (h6 : Below w.heap.size w wr) :
    RdRel s w R (.int .i64 p) b (.int .i64 q) (.int .i64 nx) wr := ⟨p, q, nx, out, rfl, rfl, rfl, h1, h2, h3, h4, h5, h6⟩
def rdMu (b q : Value) : Nat := (intOf q).toNat * 256 + (255 - slLen b)
theorem slLen_owns {w : World} {B : Nat} {v : Value} {l : List UInt8} (h : Owns w B v l) : slLen v = l.length := by
  obtain ⟨a, cap, rfl⟩ := h.form
  rfl

set_option maxHeartbeats 2000000 in
set_option maxRecDepth 100000 in
theorem read_nat (s : ByteArray) (p0 : Nat) (R : Cm.RR) (w : World) (hs : s.size ≤ maxLen) (hp0 : (p0 : Int) ≤ 9223372036854775807) (hR : Hid (R = Cm.rdm (bl s) p0 p0 0 [])) :
    Calls Try.prog 21 #[.string s, .int .i64 p0] w fun e w' => e = .returned (.tuple #[.string (rrS R), .int .i64 R.next, .int .i64 R.e]) ∧ Keeps w w' := by
  have hs' := hs
  unfold maxLen at hs'
  go_enter Try.func21, Try.ntmps21
  go_wp2
  go_step3
  go_wp2
  go_step3
  go_wp2
  go_loopw [1, 7, 8, 9] (fun a b q nx wr => RdRel s w R a b q nx wr) (fun _ b q _ _ => rdMu b q)
  case atStart => exact RdRel.mk p0 p0 0 [] (Owns.nil _ _) (by simp) hp0 (by omega) hR.out (Below.refl _ _)
  case round =>
    obtain ⟨p, q, nx, out, rfl, rfl, rfl, hown, hlen, hp, hnx, hrd, hbel⟩ := hrel
    have HR := hide hrd
    clear hrd
    have hsb := hbel.size
    have HM := hide (slLen_owns hown)
    by_cases hlt : p < s.size
    · obtain ⟨g1, g2⟩ := get1 s p hlt
      have hat := bl_at s p hlt
      have hc := UInt8.toNat_lt s[p]
      generalize hcd : s[p] = c at *
      have HCD := hide hcd
      clear hcd
      by_cases h0 : c = 0
      · have g3 : Oct.getN s p 1 = 0 := by rw [g2, h0]; rfl
        have HF : Hid (R = ⟨out ++ [0], if nx = 0 then p + 1 else nx, 0⟩) := by
          unfold Hid; rw [HR.out]; exact Cm.rdm_zero (by rw [hat, h0])
        have hcv := Owns.conv hown
        clear g2 h0 hat
        by_cases hz : nx = 0
        · rw [if_pos hz] at HF
          have hz2 : (nx : Int) = 0 := by omega
          go_wp2_with (go_at_call 37; refine (get_any _ _ _ _ hs hp).mono ?_; rintro e w' ⟨rfl, rfl⟩)
          rw [Exit.noGoto_ret]
          go_ret3
          exact ⟨by rw [HF.out]; exact ret_str_int_int (cat_mk out [0]) (by simp) rfl, hbel⟩
        · rw [if_neg hz] at HF
          have hz2 : ((nx : Int) == 0) = false := by simp; omega
          go_wp2_with (go_at_call 37; refine (get_any _ _ _ _ hs hp).mono ?_; rintro e w' ⟨rfl, rfl⟩)
          rw [Exit.noGoto_ret]
          go_ret3
          exact ⟨by rw [HF.out]; exact ret_str_int_int (cat_mk out [0]) rfl rfl, hbel⟩
      · have hpos := Nm.toNat_pos h0
        have hz : ((c.toNat : Int) == 0) = false := by simp; omega
        have HAT := hide hat
        clear hat
        by_cases h63 : (c.toNat : Int) ≤ 63
        · by_cases hfit : p + 1 + c.toNat ≤ s.size
          · obtain ⟨t1, t2, t3⟩ := take1 s p c.toNat hfit
            have HT2 := hide t2
            clear t2
            by_cases hlong : 254 < out.length + (1 + c.toNat)
            · have HF : Hid (R = Cm.bad 3) := by
                unfold Hid; rw [HR.out]; exact Cm.rdm_long HAT.out h0 (by omega) (by rw [bl_length]; exact hfit) hlong
              clear h0
              go_wp2_with (first | (go_at_call 37; refine (get_any _ _ _ _ hs hp).mono ?_; rintro e w' ⟨rfl, rfl⟩) | (go_at_call 38; refine (take_any _ _ _ _ hs hp).mono ?_; rintro e w' ⟨rfl, rfl⟩) | (at_builtin; refine wpList_appStr _ rfl _ _ rfl w.heap.size _ _ rfl hown (Oct.takeS s p (1 + (c.toNat : Int))) rfl ?e12 ?e13 ?_))
              case e12 => rw [t3]; omega
              case e13 => exact hsb
              intro v' w2 hown' hb' _
              have hbel' := hbel.trans hb'
              have hln := Owns.len hown'
              have hll : ((out ++ (Oct.takeS s p (1 + (c.toNat : Int))).data.toList).length : Int) = out.length + (1 + c.toNat) := by
                rw [List.length_append]
                show ((out.length + (bl (Oct.takeS s p (1 + (c.toNat : Int)))).length : Nat) : Int) = _
                rw [bl_length, t3]; omega
              rw [hll] at hln
              have HM2 := hide (slLen_owns hown')
              clear hb' hown hbel hll
              go_wp2
              rw [Exit.noGoto_ret]
              go_ret3
              exact ⟨by rw [HF.out]; rfl, hbel'⟩
            · have HF : Hid (R = Cm.rdm (bl s) (p + 1 + c.toNat) q nx (out ++ ((bl s).drop p).take (1 + c.toNat))) := by
                unfold Hid; rw [HR.out]; exact Cm.rdm_label HAT.out h0 (by omega) (by rw [bl_length]; exact hfit) hlong
              clear h0
              go_wp2_with (first | (go_at_call 37; refine (get_any _ _ _ _ hs hp).mono ?_; rintro e w' ⟨rfl, rfl⟩) | (go_at_call 38; refine (take_any _ _ _ _ hs hp).mono ?_; rintro e w' ⟨rfl, rfl⟩) | (at_builtin; refine wpList_appStr _ rfl _ _ rfl w.heap.size _ _ rfl hown (Oct.takeS s p (1 + (c.toNat : Int))) rfl ?e22 ?e23 ?_))
              case e22 => rw [t3]; omega
              case e23 => exact hsb
              intro v' w2 hown' hb' _
              have hbel' := hbel.trans hb'
              have hln := Owns.len hown'
              have hll : ((out ++ (Oct.takeS s p (1 + (c.toNat : Int))).data.toList).length : Int) = out.length + (1 + c.toNat) := by
                rw [List.length_append]
                show ((out.length + (bl (Oct.takeS s p (1 + (c.toNat : Int)))).length : Nat) : Int) = _
                rw [bl_length, t3]; omega
              rw [hll] at hln
              have HM2 := hide (slLen_owns hown')
              clear hb' hown hbel hll
              go_wp2
              go_roundw
              case rel =>
                have e1 : ((p : Int) + (1 + (c.toNat : Int))) = ((p + 1 + c.toNat : Nat) : Int) := by omega
                have e2 : (Oct.takeS s p (1 + (c.toNat : Int))).data.toList = ((bl s).drop p).take (1 + c.toNat) := HT2.out
                rw [e2] at hown'
                rw [e1]
                refine RdRel.mk _ _ _ _ hown' ?_ (by omega) hnx HF.out hbel'
                rw [List.length_append, List.length_take, List.length_drop]
                omega
              case measure =>
                have e2 : (Oct.takeS s p (1 + (c.toNat : Int))).data.toList.length = 1 + c.toNat := by rw [← t3]; exact bl_length _
                have h1 := HM.out
                have h2 := HM2.out
                rw [List.length_append, e2] at h2
                simp only [rdMu, h1, h2]
                omega
          · have HF : Hid (R = Cm.bad 2) := by
              unfold Hid; rw [HR.out]; exact Cm.rdm_short HAT.out h0 (by omega) (by rw [bl_length]; exact hfit)
            have t1 := take1_no s p c.toNat hfit
            clear h0
            go_wp2_with (first | (go_at_call 37; refine (get_any _ _ _ _ hs hp).mono ?_; rintro e w' ⟨rfl, rfl⟩) | (go_at_call 38; refine (take_any _ _ _ _ hs hp).mono ?_; rintro e w' ⟨rfl, rfl⟩))
            rw [Exit.noGoto_ret]
            go_ret3
            exact ⟨by rw [HF.out]; rfl, hbel⟩
        · clear h0
          by_cases h192 : (c.toNat : Int) < 192
          · have HF : Hid (R = Cm.bad 3) := by
              unfold Hid; rw [HR.out]; exact Cm.rdm_mid HAT.out (by omega) (by omega)
            go_wp2_with (go_at_call 37; refine (get_any _ _ _ _ hs hp).mono ?_; rintro e w' ⟨rfl, rfl⟩)
            rw [Exit.noGoto_ret]
            go_ret3
            exact ⟨by rw [HF.out]; rfl, hbel⟩
          · by_cases hcut : p + 1 < s.size
            · have hd := UInt8.toNat_lt s[p + 1]
              have hat2 := bl_at s (p + 1) hcut
              have hm : ((s[p].toNat : Int) * 256 + (s[p + 1].toNat : Int)) = 49152 + (((c.toNat - 192) * 256 + s[p + 1].toNat : Nat) : Int) := by rw [HCD.out]; omega
              by_cases hq : q ≤ (c.toNat - 192) * 256 + s[p + 1].toNat
              · have HF : Hid (R = Cm.bad 3) := by
                  unfold Hid; rw [HR.out]; exact Cm.rdm_pbad HAT.out (by omega) hat2 hq
                have HC := hide (fun w => follow_bad s p q _ w hs hcut hm hq)
                clear hq hm hat2
                go_wp2_with (first | (go_at_call 37; refine (get_any _ _ _ _ hs hp).mono ?_; rintro e w' ⟨rfl, rfl⟩) | (go_at_call 39; refine (HC.out _).mono ?_; rintro e w' ⟨rfl, rfl⟩))
                rw [Exit.noGoto_ret]
                go_ret3
                exact ⟨by rw [HF.out]; rfl, hbel⟩
              · have HF : Hid (R = Cm.rdm (bl s) ((c.toNat - 192) * 256 + s[p + 1].toNat) ((c.toNat - 192) * 256 + s[p + 1].toNat) (if nx = 0 then p + 2 else nx) out) := by
                  unfold Hid; rw [HR.out]; exact Cm.rdm_ptr HAT.out (by omega) hat2 hq
                have HC := hide (fun w => follow_ok s p q _ w hs hcut hm hq)
                generalize (c.toNat - 192) * 256 + s[p + 1].toNat = m at *
                have hm2 : (m : Int) ≤ 65535 := by have := UInt8.toNat_lt s[p]; omega
                clear hm hat2
                by_cases hz : nx = 0
                · rw [if_pos hz] at HF
                  have hz2 : (nx : Int) = 0 := by omega
                  go_wp2_with (first | (go_at_call 37; refine (get_any _ _ _ _ hs hp).mono ?_; rintro e w' ⟨rfl, rfl⟩) | (go_at_call 39; refine (HC.out _).mono ?_; rintro e w' ⟨rfl, rfl⟩))
                  go_roundw
                  case rel => exact RdRel.mk m m (p + 2) out hown hlen (by omega) (by omega) HF.out hbel
                  case measure => simp only [rdMu, intOf, HM.out]; omega
                · rw [if_neg hz] at HF
                  have hz2 : ((nx : Int) == 0) = false := by simp; omega
                  go_wp2_with (first | (go_at_call 37; refine (get_any _ _ _ _ hs hp).mono ?_; rintro e w' ⟨rfl, rfl⟩) | (go_at_call 39; refine (HC.out _).mono ?_; rintro e w' ⟨rfl, rfl⟩))
                  go_roundw
                  case rel => exact RdRel.mk m m nx out hown hlen (by omega) hnx HF.out hbel
                  case measure => simp only [rdMu, intOf, HM.out]; omega
            · have HF : Hid (R = Cm.bad 2) := by
                unfold Hid; rw [HR.out]; exact Cm.rdm_pcut HAT.out (by omega) (by rw [bl_length]; omega)
              have HC := hide (fun w => follow_cut s p q w hs (by omega) hp)
              go_wp2_with (first | (go_at_call 37; refine (get_any _ _ _ _ hs hp).mono ?_; rintro e w' ⟨rfl, rfl⟩) | (go_at_call 39; refine (HC.out _).mono ?_; rintro e w' ⟨rfl, rfl⟩))
              rw [Exit.noGoto_ret]
              go_ret3
              exact ⟨by rw [HF.out]; rfl, hbel⟩
    · have g1 := get1_no s p (.inr (by omega))
      have HF : Hid (R = Cm.bad 2) := by
        unfold Hid; rw [HR.out]; exact Cm.rdm_cut (by rw [bl_length]; omega)
      go_wp2_with (go_at_call 37; refine (get_any _ _ _ _ hs hp).mono ?_; rintro e w' ⟨rfl, rfl⟩)
      rw [Exit.noGoto_ret]
      go_ret3
      exact ⟨by rw [HF.out]; rfl, hbel⟩

theorem read_any (s : ByteArray) (p : Int) (w : World) (hs : s.size ≤ maxLen) (hp : p ≤ 9223372036854775807) :
    Calls Try.prog 21 #[.string s, .int .i64 p] w fun e w' => e = .returned (.tuple #[.string (rrS (Cm.readL (bl s) p)), .int .i64 (Cm.readL (bl s) p).next, .int .i64 (Cm.readL (bl s) p).e]) ∧ Keeps w w' := by
  by_cases h : 0 ≤ p
  · obtain ⟨n, rfl⟩ := Int.eq_ofNat_of_zero_le h
    exact read_nat s n _ w hs hp (hide (by rw [Cm.readL, if_pos h, Int.toNat_natCast]))
  · rw [Cm.readL, if_neg h]
    exact read_neg s p w hs (by omega)
end Go.Proofs.Ythoominldliphaa
