/- Whether a record is an OPT record, may be read as one, and what it says; the first one of a list, and whether there is one. No condition. -/
import Derived.Test.YtojihkejlmggcaaDoorEdns3
namespace Go.Proofs.YtojihkejlmggcaaDoor
open Go.RowKit

def optB (r : Rec) : Bool := r.t == 41
def canB (r : Rec) : Bool := (r.n.toList == [0]) && fitB r.c 65535 && fitB r.l 4294967295
def opOf (r : Rec) : Op := ⟨true, r.c, r.l / 16777216, r.l / 65536 % 256, r.l / 32768 % 2 == 1⟩
def findR (l : List Rec) : Op × Nat := match l.filter optB with
  | [] => (noOp, 0)
  | [r] => if canB r then (opOf r, 0) else (noOp, 7)
  | _ => (noOp, 7)
def findM (m : Ms) : Op × Nat := if m.an.any optB || m.ns.any optB then (noOp, 7) else findR m.ar
def idxI (l : List Rec) : Int := if l.any optB then (l.findIdx optB : Nat) else -1

theorem isOpt_any (r : Rec) (w : World) : Calls Tryd.prog 21 #[recV r] w fun e w' => e = .returned (.bool (optB r)) ∧ Keeps w w' := by
  obtain ⟨n, t, c, l, d⟩ := r
  unfold recV
  have K := hide ((Keeps.refl w).alloc (.cells #[.string n, .int .i64 t, .int .i64 c, .int .i64 l, .string d] 37))
  go_enter Tryd.func21, Tryd.ntmps21
  go_wp2
  go_ret
  exact ⟨ret_bool rfl, K.out⟩

set_option maxRecDepth 100000 in
theorem canRead_any (r : Rec) (w : World) : Calls Tryd.prog 23 #[recV r] w fun e w' => e = .returned (.bool (canB r)) ∧ Keeps w w' := by
  obtain ⟨n, t, c, l, d⟩ := r
  have HC := hide (show canB ⟨n, t, c, l, d⟩ = ((n.toList == [0]) && fitB c 65535 && fitB l 4294967295) from rfl)
  generalize canB ⟨n, t, c, l, d⟩ = R at *
  unfold recV
  have K := hide ((Keeps.refl w).alloc (.cells #[.string n, .int .i64 t, .int .i64 c, .int .i64 l, .string d] 37))
  cases h1 : (n.toList == [0])
  · go_enter Tryd.func23, Tryd.ntmps23
    go_wp2_with (go_at_call 26; refine (fits_any _ _ _).mono ?_; rintro e w5 ⟨rfl, hw⟩; subst hw)
    go_ret
    exact ⟨ret_bool (by rw [HC.out, h1]; rfl), K.out⟩
  cases h2 : fitB c 65535
  · go_enter Tryd.func23, Tryd.ntmps23
    go_wp2_with (go_at_call 26; refine (fits_any _ _ _).mono ?_; rintro e w5 ⟨rfl, hw⟩; subst hw; rw [h2])
    go_ret
    exact ⟨ret_bool (by rw [HC.out, h1, h2]; rfl), K.out⟩
  · go_enter Tryd.func23, Tryd.ntmps23
    go_wp2_with (go_at_call 26; refine (fits_any _ _ _).mono ?_; rintro e w5 ⟨rfl, hw⟩; subst hw; try rw [h2])
    go_ret
    exact ⟨ret_bool (by rw [HC.out, h1, h2]; rfl), K.out⟩

set_option maxHeartbeats 2000000 in
set_option maxRecDepth 100000 in
theorem readOpt_any (r : Rec) (w : World) (h : canB r = true) : Calls Tryd.prog 24 #[recV r] w fun e w' => e = .returned (opV (opOf r)) ∧ Keeps w w' := by
  obtain ⟨n, t, c, l, d⟩ := r
  have hl : 0 ≤ l ∧ l ≤ 4294967295 := by
    simp only [canB, Bool.and_eq_true, fitB, decide_eq_true_eq] at h
    exact h.2
  clear h
  have e1 : bits .and .i64 (l / 16777216) 255 = l / 16777216 := by
    rw [mask_wide _ 8 255 rfl (by omega) (by decide)]
    omega
  have e2 : bits .and .i64 (l / 65536) 255 = l / 65536 % 256 := by
    rw [mask_wide _ 8 255 rfl (by omega) (by decide)]
    rfl
  have e3 : bits .and .i64 (l / 32768) 1 = l / 32768 % 2 := by
    rw [mask_wide _ 1 1 rfl (by omega) (by decide)]
    rfl
  have HF := hide (show opV (opOf ⟨n, t, c, l, d⟩) = .agg #[.bool true, .int .i64 c, .int .i64 (l / 16777216), .int .i64 (l / 65536 % 256), .bool (l / 32768 % 2 == 1)] from rfl)
  generalize opV (opOf ⟨n, t, c, l, d⟩) = R at *
  unfold recV
  have B := hide ((Blk.made w #[.string n, .int .i64 t, .int .i64 c, .int .i64 l, .string d] 37).alloc (.cells #[.bool false, .int .i64 0, .int .i64 0, .int .i64 0, .bool false] 29))
  have B2 := Blk.made (w.alloc (.cells #[.string n, .int .i64 t, .int .i64 c, .int .i64 l, .string d] 37)) #[.bool false, .int .i64 0, .int .i64 0, .int .i64 0, .bool false] 29
  rw [size_alloc] at B2
  replace B2 := hide B2
  have K := hide (((Keeps.refl w).alloc (.cells #[.string n, .int .i64 t, .int .i64 c, .int .i64 l, .string d] 37)).alloc (.cells #[.bool false, .int .i64 0, .int .i64 0, .int .i64 0, .bool false] 29))
  go_enter Tryd.func24, Tryd.ntmps24
  go_upto_region 1 with fail
  generalize (w.alloc (.cells #[.string n, .int .i64 t, .int .i64 c, .int .i64 l, .string d] 37)).alloc (.cells #[.bool false, .int .i64 0, .int .i64 0, .int .i64 0, .bool false] 29) = W at *
  have hle : w.heap.size ≤ w.heap.size + 1 := Nat.le_succ _
  generalize w.heap.size + 1 = G2 at *
  obtain ⟨b0, b1, b2, b3, b4, _, _, _, _, _, _⟩ := B.out.cell5
  obtain ⟨c0, c1, c2, c3, c4, f0, f1, f2, f3, f4, glt⟩ := B2.out.cell5
  have HK := hide (fun a b c d e => Keeps.five K.out hle a b c d e)
  clear B B2 K hle
  generalize w.heap.size = G at *
  go_wp2_with fail
  exact bodyPost_ret (v := .agg #[.bool true, .int .i64 c, .int .i64 (l / 16777216), .int .i64 (l / 65536 % 256), .bool (l / 32768 % 2 == 1)]) (by simp [results, Tryd.results24, go_sem, c0, c1, c2, c3, c4]) rfl ⟨by rw [HF.out], HK.out _ _ _ _ _⟩

theorem idx_at {l : List Rec} {j : Nat} (hj : j < l.length) (ha : (l.take j).any optB = false) (h : optB l[j] = true) : idxI l = j ∧ l.any optB = true := by
  have h1 : l.any optB = true := List.any_eq_true.2 ⟨_, List.getElem_mem hj, h⟩
  refine ⟨?_, h1⟩
  rw [idxI, if_pos h1]
  have : l.findIdx optB = j := by
    rw [List.findIdx_eq hj]
    refine ⟨h, fun k hk => ?_⟩
    have := List.any_eq_false.1 ha (l[k]'(by omega)) (List.mem_take_iff_getElem.2 ⟨k, by omega, rfl⟩)
    simpa using this
  rw [this]
theorem any_step {l : List Rec} {j : Nat} (hj : j < l.length) (ha : (l.take j).any optB = false) (h : optB l[j] = false) : (l.take (j + 1)).any optB = false := by
  rw [List.take_succ_eq_append_getElem hj, List.any_append, ha]
  simp [h]

set_option maxHeartbeats 2000000 in
set_option maxRecDepth 100000 in
theorem idx_any (v : Value) (l : List Rec) (w : World) (hr : ReadRow w v 5 (l.map recL8)) (hl : l.length ≤ maxLen) :
    Calls Tryd.prog 22 #[v, .func (.func 21) #[] #[]] w fun e w' => e = .returned (.int .i64 (idxI l)) ∧ Keeps w w' := by
  unfold maxLen at hl
  obtain ⟨a, cap, hv⟩ := hr.len
  rw [List.length_map] at hv
  subst hv
  go_enter Tryd.func22, Tryd.ntmps22
  go_wp2
  go_loopw [8] (fun i wr => ∃ j : Nat, j ≤ l.length ∧ i = .int .i64 j ∧ Hid ((l.take j).any optB = false) ∧ Keeps w wr) (fun i _ => l.length - (intOf i).toNat)
  case atStart => exact ⟨0, by omega, rfl, by simp [Hid], Keeps.refl _⟩
  case round =>
    obtain ⟨j, hj, rfl, HA, K⟩ := hrel
    have hr2 := hr.keeps K
    by_cases hlt : j < l.length
    · have i2 : (j : Int) < (l.length : Int) := by omega
      have i0 : (0 : Int) ≤ (j : Int) := by omega
      obtain ⟨b, off, rfl, _, _⟩ := hr2.parts (by rw [List.length_map]; omega)
      obtain ⟨c0, c1, c2, c3, c4⟩ := row5 hr2 hlt
      have HO := hide (fun W => isOpt_any l[j] W)
      have HI := hide (idx_at hlt HA.out)
      have HS := hide (any_step hlt HA.out)
      generalize hoo : off + j * 5 = o at *
      generalize l[j] = x at *
      obtain ⟨xn, xt, xc, xl, xd⟩ := x
      unfold recV at HO
      clear hr2 hr
      cases hx : optB ⟨xn, xt, xc, xl, xd⟩
      · have HE := hide (HS.out hx)
        rw [hx] at HO
        clear HI HS HA hx
        go_wp2_with fail
        refine (HO.out _).mono ?_
        rintro e w2 ⟨rfl, k1⟩
        have K2 := hide (K.trans k1)
        clear k1
        go_wp2
        go_roundw
        case rel => exact ⟨j + 1, by omega, by go_num, HE, K2.out⟩
        case measure => simp [intOf]; omega
      · have HE := hide (HI.out hx).1
        rw [hx] at HO
        clear HI HS HA hx
        go_wp2_with fail
        refine (HO.out _).mono ?_
        rintro e w2 ⟨rfl, k1⟩
        have K2 := hide (K.trans k1)
        clear k1
        go_wp2
        go_ret
        exact ⟨ret_int HE.out.symm, K2.out⟩
    · obtain rfl : j = l.length := by omega
      rw [List.take_length] at HA
      have HE : Hid (idxI l = -1) := by rw [Hid, idxI, HA.out]; rfl
      go_wp2
      go_ret
      exact ⟨ret_int HE.out.symm, K⟩

theorem contains_any (v : Value) (l : List Rec) (w : World) (hr : ReadRow w v 5 (l.map recL8)) (hl : l.length ≤ maxLen) :
    Calls Tryd.prog 20 #[v, .func (.func 21) #[] #[]] w fun e w' => e = .returned (.bool (l.any optB)) ∧ Keeps w w' := by
  have HI := hide (fun W (k : Keeps w W) => idx_any v l W (hr.keeps k) hl)
  have HE : Hid (decide (0 ≤ idxI l) = l.any optB) := by
    unfold Hid idxI
    cases l.any optB
    · rfl
    · simp
  clear hr
  generalize idxI l = X at *
  go_enter Tryd.func20, Tryd.ntmps20
  go_wp2_with fail
  refine (HI.out _ (Keeps.refl _)).mono ?_
  rintro e w2 ⟨rfl, k1⟩
  go_wp2
  go_ret
  exact ⟨ret_bool HE.out, k1⟩
end Go.Proofs.YtojihkejlmggcaaDoor
