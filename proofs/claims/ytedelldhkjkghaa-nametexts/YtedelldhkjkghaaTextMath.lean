/- Plain functions on bytes: names as texts, and back. No condition. -/
import Derived.Test.YtedelldhkjkghaaNameMath
namespace Go.Proofs.Ytedelldhkjkghaa.Nm

def digI (r : Int) : Bool := decide (48 ≤ r ∧ r ≤ 57)
def plainI (r : Int) : Bool := decide ((97 ≤ r ∧ r ≤ 122) ∨ (65 ≤ r ∧ r ≤ 90) ∨ (48 ≤ r ∧ r ≤ 57) ∨ r = 45 ∨ r = 95)
def esc4 (c : UInt8) : List UInt8 := [92, UInt8.ofNat (48 + c.toNat / 100), UInt8.ofNat (48 + c.toNat / 10 % 10), UInt8.ofNat (48 + c.toNat % 10)]
def escB (c : UInt8) : List UInt8 := if plainI c.toNat = true then [c] else esc4 c
def escL (l : List UInt8) : List UInt8 := l.flatMap escB
def esc4L (l : List UInt8) : List UInt8 := l.flatMap esc4
/-- Labels, escaped, with a dot between any two. -/
def textL : List (List UInt8) → List UInt8
  | [] => []
  | x :: xs => escL x ++ xs.flatMap (fun y => 46 :: escL y)

structure St where
  ls : List (List UInt8)
  cur : List UInt8
  wanted : Nat
  code : Nat
def step (s : St) (c : UInt8) : Option St :=
  if 0 < s.wanted then
    if digI c.toNat = true then
      if 1 < s.wanted then some { s with wanted := s.wanted - 1, code := s.code * 10 + (c.toNat - 48) }
      else if 255 < s.code * 10 + (c.toNat - 48) ∨ plainI (s.code * 10 + (c.toNat - 48) : Nat) = true then none
      else some { s with cur := s.cur ++ [UInt8.ofNat (s.code * 10 + (c.toNat - 48))], wanted := 0, code := s.code * 10 + (c.toNat - 48) }
    else none
  else if c = 92 then some { s with wanted := 3, code := 0 }
  else if c = 46 then some { s with ls := s.ls ++ [s.cur], cur := [] }
  else if plainI c.toNat = true then some { s with cur := s.cur ++ [c] }
  else none
def run (s : St) : List UInt8 → Option St
  | [] => some s
  | c :: r => (step s c).bind fun s' => run s' r
def init : St := ⟨[], [], 0, 0⟩
def splitO (t : List UInt8) : Option (List (List UInt8)) := (run init t).bind fun s => if s.wanted = 0 then some (s.ls ++ [s.cur]) else none

theorem run_append (s : St) (a b : List UInt8) : run s (a ++ b) = (run s a).bind fun s' => run s' b := by
  induction a generalizing s with
  | nil => rfl
  | cons c a ih =>
    simp only [List.cons_append, run]
    cases step s c with
    | none => rfl
    | some s' => exact ih s'
theorem run_snoc (s : St) (a : List UInt8) (c : UInt8) : run s (a ++ [c]) = (run s a).bind fun s' => step s' c := by
  rw [run_append]
  congr 1
  funext s'
  simp only [run]
  cases step s' c <;> rfl
theorem run_none (s : St) (a b : List UInt8) (h : run s a = none) : run s (a ++ b) = none := by rw [run_append, h]; rfl

theorem escB_length (c : UInt8) : (escB c).length ≤ 4 ∧ 1 ≤ (escB c).length := by
  unfold escB
  split <;> simp [esc4]
theorem escL_length (l : List UInt8) : (escL l).length ≤ 4 * l.length := by
  induction l with
  | nil => simp [escL]
  | cons c l ih =>
    have := (escB_length c).1
    simp only [escL, List.flatMap_cons, List.length_append, List.length_cons] at ih ⊢
    omega
theorem esc4_parts (c : UInt8) : (UInt8.ofNat (48 + c.toNat / 100)).toNat = 48 + c.toNat / 100 ∧ (UInt8.ofNat (48 + c.toNat / 10 % 10)).toNat = 48 + c.toNat / 10 % 10 ∧ (UInt8.ofNat (48 + c.toNat % 10)).toNat = 48 + c.toNat % 10 := by
  have := UInt8.toNat_lt c
  simp only [UInt8.toNat_ofNat']
  omega
theorem plain_ne (c : UInt8) (h : plainI c.toNat = true) : c ≠ 92 ∧ c ≠ 46 := by
  constructor <;> (intro e; subst e; revert h; decide)
theorem step_dig (ls : List (List UInt8)) (cur : List UInt8) (w k : Nat) (c : UInt8) (h1 : 48 ≤ c.toNat) (h2 : c.toNat ≤ 57) : step ⟨ls, cur, w + 2, k⟩ c = some ⟨ls, cur, w + 1, k * 10 + (c.toNat - 48)⟩ := by
  have d : digI c.toNat = true := by simp [digI]; omega
  simp only [step, d, if_true]
  rw [if_pos (by omega), if_pos (by omega)]
  rfl
theorem step_last (ls : List (List UInt8)) (cur : List UInt8) (k m : Nat) (c : UInt8) (h1 : 48 ≤ c.toNat) (h2 : c.toNat ≤ 57) (hm : k * 10 + (c.toNat - 48) = m) (h3 : m ≤ 255) (h4 : ¬ plainI (m : Nat) = true) : step ⟨ls, cur, 1, k⟩ c = some ⟨ls, cur ++ [UInt8.ofNat m], 0, m⟩ := by
  have d : digI c.toNat = true := by simp [digI]; omega
  simp only [step, d, if_true, hm]
  rw [if_pos (by omega), if_neg (by omega), if_neg (by intro h; rcases h with h | h; omega; exact h4 h)]
/-- An escaped byte is read as that byte. -/
theorem run_escB (s : St) (c : UInt8) (hw : s.wanted = 0) : ∃ k, run s (escB c) = some ⟨s.ls, s.cur ++ [c], 0, k⟩ := by
  unfold escB
  by_cases hp : plainI c.toNat = true
  · rw [if_pos hp]
    have hn := plain_ne c hp
    exact ⟨s.code, by simp [run, step, hw, hn.1, hn.2, hp]⟩
  · rw [if_neg hp]
    obtain ⟨e1, e2, e3⟩ := esc4_parts c
    have hc := UInt8.toNat_lt c
    refine ⟨c.toNat, ?_⟩
    have f1 : step s 92 = some ⟨s.ls, s.cur, 3, 0⟩ := by simp [step, hw]
    have f2 := step_dig s.ls s.cur 1 0 (UInt8.ofNat (48 + c.toNat / 100)) (by omega) (by omega)
    rw [e1, show 0 * 10 + (48 + c.toNat / 100 - 48) = c.toNat / 100 by omega] at f2
    have f3 := step_dig s.ls s.cur 0 (c.toNat / 100) (UInt8.ofNat (48 + c.toNat / 10 % 10)) (by omega) (by omega)
    rw [e2, show c.toNat / 100 * 10 + (48 + c.toNat / 10 % 10 - 48) = c.toNat / 10 by omega] at f3
    have f4 := step_last s.ls s.cur (c.toNat / 10) c.toNat (UInt8.ofNat (48 + c.toNat % 10)) (by omega) (by omega) (by rw [e3]; omega) (by omega) hp
    rw [UInt8.ofNat_toNat] at f4
    simp only [esc4, run, f1, f2, f3, f4, Option.bind_some]
theorem run_escL (l : List UInt8) (s : St) (hw : s.wanted = 0) : ∃ k, run s (escL l) = some ⟨s.ls, s.cur ++ l, 0, k⟩ := by
  induction l generalizing s with
  | nil => exact ⟨s.code, by simp [escL, run, ← hw]⟩
  | cons c l ih =>
    obtain ⟨k1, h1⟩ := run_escB s c hw
    obtain ⟨k2, h2⟩ := ih ⟨s.ls, s.cur ++ [c], 0, k1⟩ rfl
    refine ⟨k2, ?_⟩
    simp only [escL, List.flatMap_cons] at h2 ⊢
    rw [run_append, h1]
    simp only [Option.bind_some]
    rw [h2]
    simp
theorem run_rest (xs : List (List UInt8)) (s : St) (hw : s.wanted = 0) :
    ∃ ls cur k, run s (xs.flatMap (fun y => 46 :: escL y)) = some ⟨ls, cur, 0, k⟩ ∧ ls ++ [cur] = s.ls ++ [s.cur] ++ xs := by
  induction xs generalizing s with
  | nil => exact ⟨s.ls, s.cur, s.code, by simp [run, ← hw], by simp⟩
  | cons x xs ih =>
    have f1 : step s 46 = some ⟨s.ls ++ [s.cur], [], 0, s.code⟩ := by simp [step, hw]
    obtain ⟨k2, h2⟩ := run_escL x ⟨s.ls ++ [s.cur], [], 0, s.code⟩ rfl
    obtain ⟨ls, cur, k, h3, h4⟩ := ih ⟨s.ls ++ [s.cur], [] ++ x, 0, k2⟩ rfl
    refine ⟨ls, cur, k, ?_, by rw [h4]; simp⟩
    simp only [List.flatMap_cons, List.cons_append, run, f1, Option.bind_some]
    rw [run_append, h2]
    simp only [Option.bind_some]
    exact h3
/-- The text of labels is split into them. -/
theorem split_text (x : List UInt8) (xs : List (List UInt8)) : splitO (textL (x :: xs)) = some (x :: xs) := by
  obtain ⟨k, h1⟩ := run_escL x init rfl
  obtain ⟨ls, cur, k2, h2, h3⟩ := run_rest xs ⟨init.ls, init.cur ++ x, 0, k⟩ rfl
  have : run init (textL (x :: xs)) = some ⟨ls, cur, 0, k2⟩ := by
    simp only [textL]
    rw [run_append, h1]
    exact h2
  rw [splitO, this]
  simp only [Option.bind_some, if_true]
  rw [h3]
  rfl

/-- What of an escape has been read. -/
def Pend (s : St) (p : List UInt8) : Prop :=
  (s.wanted = 0 ∧ p = []) ∨ (s.wanted = 3 ∧ s.code = 0 ∧ p = [92]) ∨
  (s.wanted = 2 ∧ ∃ a, 48 ≤ a ∧ a ≤ 57 ∧ s.code = a - 48 ∧ p = [92, UInt8.ofNat a]) ∨
  (s.wanted = 1 ∧ ∃ a b, 48 ≤ a ∧ a ≤ 57 ∧ 48 ≤ b ∧ b ≤ 57 ∧ s.code = (a - 48) * 10 + (b - 48) ∧ p = [92, UInt8.ofNat a, UInt8.ofNat b])
def Inv (s : St) (u : List UInt8) : Prop := ∃ p, u = s.ls.flatMap (fun x => escL x ++ [46]) ++ escL s.cur ++ p ∧ Pend s p
theorem escL_snoc (l : List UInt8) (c : UInt8) : escL (l ++ [c]) = escL l ++ escB c := by simp [escL]
theorem dig_bounds (c : UInt8) (h : digI c.toNat = true) : 48 ≤ c.toNat ∧ c.toNat ≤ 57 := by simp [digI] at h; omega
theorem inv_step (s s' : St) (u : List UInt8) (c : UInt8) (h : Inv s u) (hs : step s c = some s') : Inv s' (u ++ [c]) := by
  obtain ⟨p, rfl, hp⟩ := h
  unfold step at hs
  rcases hp with ⟨hw, rfl⟩ | ⟨hw, hc, rfl⟩ | ⟨hw, a, a1, a2, hc, rfl⟩ | ⟨hw, a, b, a1, a2, b1, b2, hc, rfl⟩
  · rw [hw, if_neg (by omega)] at hs
    by_cases e1 : c = 92
    · rw [if_pos e1] at hs
      obtain rfl := Option.some.inj hs
      exact ⟨[92], by simp [e1], .inr (.inl ⟨rfl, rfl, rfl⟩)⟩
    · rw [if_neg e1] at hs
      by_cases e2 : c = 46
      · rw [if_pos e2] at hs
        obtain rfl := Option.some.inj hs
        exact ⟨[], by simp [e2, escL], .inl ⟨rfl, rfl⟩⟩
      · rw [if_neg e2] at hs
        by_cases e3 : plainI c.toNat = true
        · rw [if_pos e3] at hs
          obtain rfl := Option.some.inj hs
          exact ⟨[], by simp only [escL_snoc, escB, if_pos e3]; simp, .inl ⟨rfl, rfl⟩⟩
        · rw [if_neg e3] at hs
          simp at hs
  · rw [hw, if_pos (by omega)] at hs
    by_cases e : digI c.toNat = true
    · rw [if_pos e, if_pos (by omega)] at hs
      obtain rfl := Option.some.inj hs
      have hb := dig_bounds c e
      exact ⟨[92, c], by simp, .inr (.inr (.inl ⟨rfl, c.toNat, hb.1, hb.2, by simp [hc], by simp⟩))⟩
    · rw [if_neg e] at hs
      simp at hs
  · rw [hw, if_pos (by omega)] at hs
    by_cases e : digI c.toNat = true
    · rw [if_pos e, if_pos (by omega)] at hs
      obtain rfl := Option.some.inj hs
      have hb := dig_bounds c e
      exact ⟨[92, UInt8.ofNat a, c], by simp, .inr (.inr (.inr ⟨rfl, a, c.toNat, a1, a2, hb.1, hb.2, by simp [hc], by simp⟩))⟩
    · rw [if_neg e] at hs
      simp at hs
  · rw [hw, if_pos (by omega)] at hs
    by_cases e : digI c.toNat = true
    · rw [if_pos e, if_neg (by omega)] at hs
      have hb := dig_bounds c e
      split at hs
      · simp at hs
      · rename_i hn
        simp only [not_or] at hn
        obtain rfl := Option.some.inj hs
        refine ⟨[], ?_, .inl ⟨rfl, rfl⟩⟩
        have hcode : s.code * 10 + (c.toNat - 48) < 256 := by omega
        have hto : (UInt8.ofNat (s.code * 10 + (c.toNat - 48))).toNat = s.code * 10 + (c.toNat - 48) := by rw [UInt8.toNat_ofNat']; omega
        simp only [escL_snoc, escB, hto, if_neg hn.2, esc4]
        have g1 : 48 + (s.code * 10 + (c.toNat - 48)) / 100 = a := by omega
        have g2 : 48 + (s.code * 10 + (c.toNat - 48)) / 10 % 10 = b := by omega
        have g3 : 48 + (s.code * 10 + (c.toNat - 48)) % 10 = c.toNat := by omega
        rw [g1, g2, g3]
        simp
    · rw [if_neg e] at hs
      simp at hs
theorem inv_run (t : List UInt8) (s s' : St) (u : List UInt8) (h : Inv s u) (hr : run s t = some s') : Inv s' (u ++ t) := by
  induction t generalizing s u with
  | nil => simp only [run, Option.some.injEq] at hr; subst hr; simpa using h
  | cons c t ih =>
    simp only [run] at hr
    cases hs : step s c with
    | none => rw [hs] at hr; simp at hr
    | some s1 =>
      rw [hs] at hr
      have := ih s1 (u ++ [c]) (inv_step s s1 u c h hs) hr
      simpa using this
theorem textL_snoc (ls : List (List UInt8)) (x : List UInt8) : textL (ls ++ [x]) = ls.flatMap (fun x => escL x ++ [46]) ++ escL x := by
  cases ls with
  | nil => simp [textL]
  | cons y ls =>
    have : ∀ (ls : List (List UInt8)), ls.flatMap (fun y => 46 :: escL y) ++ [46] = 46 :: ls.flatMap (fun x => escL x ++ [46]) := by
      intro ls
      induction ls with
      | nil => rfl
      | cons z ls ih => simp only [List.flatMap_cons, List.append_assoc, ih]; simp
    simp only [List.cons_append, textL, List.flatMap_append, List.flatMap_cons, List.flatMap_nil, List.append_nil, List.append_assoc]
    rw [← List.append_assoc, ← List.append_assoc]
    rw [show ∀ (q : List UInt8), (46 : UInt8) :: q = [46] ++ q from fun _ => rfl, ← List.append_assoc, List.append_assoc (escL y), this]
    simp
/-- What is split into labels is their text. -/
theorem text_split (t : List UInt8) (L : List (List UInt8)) (h : splitO t = some L) : textL L = t ∧ L ≠ [] := by
  unfold splitO at h
  cases hr : run init t with
  | none => rw [hr] at h; simp at h
  | some s =>
    rw [hr] at h
    simp only [Option.bind_some] at h
    split at h
    · rename_i hw
      obtain rfl := Option.some.inj h
      have hi := inv_run t init s [] ⟨[], rfl, .inl ⟨rfl, rfl⟩⟩ hr
      obtain ⟨p, hu, hp⟩ := hi
      rcases hp with ⟨_, rfl⟩ | ⟨h3, _⟩ | ⟨h2, _⟩ | ⟨h1, _⟩
      · refine ⟨?_, by simp⟩
        rw [textL_snoc]
        simpa using hu.symm
      all_goals omega
    · simp at h
end Go.Proofs.Ytedelldhkjkghaa.Nm
