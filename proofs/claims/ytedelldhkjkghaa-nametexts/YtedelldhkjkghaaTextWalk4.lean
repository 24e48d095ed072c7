/- What name.Parse answers, for every input; the examples of layer 2. -/
import Derived.Test.YtedelldhkjkghaaTextWalk3
import Derived.Test.YtedelldhkjkghaaNameWalk4
namespace Go.Proofs.Ytedelldhkjkghaa
open Go.RowKit

def parseO (t : ByteArray) : Option (List UInt8) :=
  if bl t = [46] then some [0] else if 1020 < t.size then none else
    (Nm.splitO (bl t)).bind fun L => if Nm.joinOk L = true then some (Nm.joinL L) else none
def parseS (t : ByteArray) : ByteArray := ⟨((parseO t).getD []).toArray⟩
def parseOk (t : ByteArray) : Bool := (parseO t).isSome

theorem split_bound (t : ByteArray) (h : t.size ≤ 1020) : ((Nm.splitO (bl t)).getD []).length ≤ 1021 ∧ ∀ x ∈ (Nm.splitO (bl t)).getD [], x.length ≤ maxLen := by
  unfold Nm.splitO
  cases hr : Nm.run Nm.init (bl t) with
  | none => simp
  | some s =>
    have hl := run_len _ s hr
    rw [bl_length] at hl
    simp only [Option.bind_some]
    split
    · simp only [Option.getD_some]
      refine ⟨by simp; omega, fun x hx => ?_⟩
      have hi := Nm.inv_run (bl t) Nm.init s [] ⟨[], rfl, .inl ⟨rfl, rfl⟩⟩ hr
      obtain ⟨p, hu, _⟩ := hi
      rw [List.nil_append] at hu
      have h1 : ∀ l : List UInt8, l.length ≤ (Nm.escL l).length := by
        intro l
        induction l with
        | nil => simp
        | cons c l ih => have := (Nm.escB_length c).2; simp only [Nm.escL, List.flatMap_cons, List.length_append, List.length_cons] at ih ⊢; omega
      have h2 : ∀ (l : List (List UInt8)) (y : List UInt8), y ∈ l → y.length ≤ (l.flatMap (fun x => Nm.escL x ++ [46])).length := by
        intro l
        induction l with
        | nil => intro y hy; simp at hy
        | cons c l ih =>
          intro y hy
          simp only [List.flatMap_cons, List.length_append]
          rcases List.mem_cons.1 hy with rfl | hy
          · have := h1 y; omega
          · have := ih y hy; omega
      have h3 : (bl t).length = t.size := bl_length t
      rw [hu] at h3
      simp only [List.length_append] at h3
      unfold maxLen
      rcases List.mem_append.1 hx with hx | hx
      · have := h2 s.ls x hx; omega
      · have e := List.mem_singleton.1 hx
        have := h1 x; rw [e] at this ⊢; omega
    · simp

theorem parse_any (t : ByteArray) (w : World) (ht : t.size ≤ maxLen) :
    Calls Try.prog 25 #[.string t] w fun e w' => e = .returned (.tuple #[.string (parseS t), .bool (parseOk t)]) ∧ Keeps w w' := by
  unfold maxLen at ht
  by_cases h0 : bl t = [46]
  · have E1 : Hid (parseS t = ⟨#[0]⟩) := by simp [Hid, parseS, parseO, h0]
    have E2 : Hid (parseOk t = true) := by simp [Hid, parseOk, parseO, h0]
    have z : (t.toList == [46]) = true := by rw [toList_bl, h0]; rfl
    clear h0
    go_enter Try.func25, Try.ntmps25
    go_wp2
    go_ret2
    exact ⟨ret_str_bool E1.out.symm E2.out.symm, Keeps.refl _⟩
  have z : (t.toList == [46]) = false := by rw [toList_bl]; simpa using h0
  by_cases hl : 1020 < (t.size : Int)
  · have E1 : Hid (parseS t = ⟨#[]⟩) := by simp only [Hid, parseS, parseO, h0, if_false]; rw [if_pos (by omega)]; rfl
    have E2 : Hid (parseOk t = false) := by simp only [Hid, parseOk, parseO, h0, if_false]; rw [if_pos (by omega)]; rfl
    clear h0
    go_enter Try.func25, Try.ntmps25
    go_wp2
    go_ret2
    exact ⟨ret_str_bool E1.out.symm E2.out.symm, Keeps.refl _⟩
  have hb := split_bound t (by omega)
  have ep : parseO t = (Nm.splitO (bl t)).bind fun L => if Nm.joinOk L = true then some (Nm.joinL L) else none := by
    unfold parseO; rw [if_neg h0, if_neg (by omega)]
  have EP := hide ep
  have HB := hide hb
  clear h0 ep hb
  cases hs : Nm.splitO (bl t) with
  | none =>
    have E1 : Hid (parseS t = ⟨#[]⟩) := by unfold Hid parseS; rw [EP.out, hs]; rfl
    have E2 : Hid (parseOk t = false) := by unfold Hid parseOk; rw [EP.out, hs]; rfl
    go_enter Try.func25, Try.ntmps25
    go_wp2_with fail
    refine (split_any _ _ (by omega)).mono ?_
    rintro e w1 ⟨v, rfl, hown, k1⟩
    rw [hs]
    go_wp2
    go_ret2
    exact ⟨ret_str_bool E1.out.symm E2.out.symm, k1⟩
  | some L =>
    have hb := HB.out
    rw [hs, Option.getD_some] at hb
    go_enter Try.func25, Try.ntmps25
    go_wp2_with fail
    refine (split_any _ _ (by omega)).mono ?_
    rintro e w1 ⟨v, rfl, hown, k1⟩
    rw [hs, Option.getD_some] at hown
    rw [hs]
    have E1 : Hid (parseS t = joinS L) := by unfold Hid parseS joinS; rw [EP.out, hs]; simp only [Option.bind_some]; split <;> rfl
    have E2 : Hid (parseOk t = Nm.joinOk L) := by unfold Hid parseOk; rw [EP.out, hs]; simp only [Option.bind_some]; cases Nm.joinOk L <;> rfl
    clear hs
    go_wp2_with fail
    refine (join_any _ L _ hown.read (by omega) hb.2).mono ?_
    rintro e w2 ⟨rfl, k2⟩
    clear hown hb
    go_wp2
    go_ret2
    exact ⟨ret_str_bool E1.out.symm E2.out.symm, k1.trans k2⟩
end Go.Proofs.Ytedelldhkjkghaa
