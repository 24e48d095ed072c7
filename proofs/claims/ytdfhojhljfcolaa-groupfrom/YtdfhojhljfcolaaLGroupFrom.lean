/- GroupFrom answers true, for every input: the walk. -/
import Derived.Test.YtdfhojhljfcolaaGrpLive
import Derived.Test.YtdfhojhljfcolaaGrpU
import Derived.Test.YtdfhojhljfcolaaShapesR
import Derived.Test.YtdfhojhljfcolaaMsgW7
namespace Go.Proofs.Ytdfhojhljfcolaa
open Go.RowKit

set_option maxHeartbeats 8000000 in
set_option maxRecDepth 100000 in
theorem GroupFrom_walk (v : Value) (l : List Rec) (w : World) (hv : ReadRow w v 5 (l.map recL) ∧ (∀ r ∈ l, RecFine r) ∧ l.length ≤ maxLen) :
    Calls Try.prog 3 #[v] w fun e w' => e = .returned (.bool true) ∧ Keeps w w' := by
  obtain ⟨hrd0, hfine, hlen⟩ := hv
  have hrd : ReadRow w v 5 (l.map recL8) := hrd0
  clear hrd0
  have hsz : ∀ x ∈ l, x.n.size ≤ maxLen ∧ x.d.size ≤ maxLen := fun x hx => ⟨(hfine x hx).1, (hfine x hx).2.1⟩
  clear hfine
  have hfe : fewL l = true → l.length ≤ 60 := fun h => by
    simp only [fewL, Bool.and_eq_true, decide_eq_true_eq] at h
    exact h.2
  have HF := hide (Few_any v l w hrd hlen hsz)
  obtain ⟨a, cap, hvd⟩ := hrd.len
  rw [List.length_map] at hvd
  subst hvd
  go_enter Try.func3, Try.ntmps3
  go_wp2_with fail
  refine (HF.out).mono ?_
  rintro e w1 ⟨rfl, k1⟩
  have K := hide k1
  have RD := hide (hrd.keeps k1)
  clear k1 HF hrd
  cases hfew : fewL l
  · go_wp2_with fail
    refine (live10_any _).mono ?_
    rintro e wz ⟨rfl, kz⟩
    go_wp2
    go_ret
    exact ⟨rfl, K.out.trans kz⟩
  have h60 := hfe hfew
  clear hfe hfew
  go_wp2_with fail
  go_loopw [3] (fun i wr => ∃ j : Nat, j ≤ l.length ∧ i = .int .i64 j ∧ Keeps w1 wr) (fun i _ => l.length - (intOf i).toNat)
  case atStart => exact ⟨0, by omega, rfl, Keeps.refl _⟩
  case round =>
    obtain ⟨j, hj, rfl, K1⟩ := hrel
    by_cases hlt : j < l.length
    · have i2 : (j : Int) < (l.length : Int) := by omega
      have i0 : (0 : Int) ≤ (j : Int) := by omega
      have hv2 := RD.out.keeps K1
      obtain ⟨b, off, rfl, hb0, _⟩ := hv2.parts (by rw [List.length_map]; omega)
      obtain ⟨c0, c1, c2, c3, c4⟩ := row5 hv2 hlt
      obtain ⟨fn, fd⟩ := hsz _ (List.getElem_mem hlt)
      generalize hoo : off + j * 5 = o at *
      generalize l[j] = r at *
      have H1 := fun W => Key_any r W fn fd
      have H2 := fun W => refKey_any r W fn fd
      have nq := neq_qn (keyM r) (keyM r)
      rw [decide_eq_true rfl] at nq
      simp only [recV, qnV] at H1 H2
      generalize keyM r = kq at *
      replace H1 := hide H1
      replace H2 := hide H2
      have HT := hide (fun w' (kk : Keeps wr.drew w') => (⟨(Below.cell (p := ⟨b, o, none⟩) kk hb0).trans c0, (Below.cell (p := ⟨b, o + 1, none⟩) kk hb0).trans c1, (Below.cell (p := ⟨b, o + 2, none⟩) kk hb0).trans c2, (Below.cell (p := ⟨b, o + 3, none⟩) kk hb0).trans c3, (Below.cell (p := ⟨b, o + 4, none⟩) kk hb0).trans c4⟩ : w'.cell? ⟨b, o, none⟩ = some (.string r.n) ∧ w'.cell? ⟨b, o + 1, none⟩ = some (.int .i64 r.t) ∧ w'.cell? ⟨b, o + 2, none⟩ = some (.int .i64 r.c) ∧ w'.cell? ⟨b, o + 3, none⟩ = some (.int .i64 r.l) ∧ w'.cell? ⟨b, o + 4, none⟩ = some (.string r.d)))
      have T := HT.out _ (Keeps.refl _)
      have KK : Keeps wr.drew wr.drew := Keeps.refl _
      clear c0 c1 c2 c3 c4 hv2
      go_wp2_with fail
      go_region_held3 (fun w' => w'.cell? ⟨b, o, none⟩ = some (.string r.n) ∧ w'.cell? ⟨b, o + 1, none⟩ = some (.int .i64 r.t) ∧ w'.cell? ⟨b, o + 2, none⟩ = some (.int .i64 r.c) ∧ w'.cell? ⟨b, o + 3, none⟩ = some (.int .i64 r.l) ∧ w'.cell? ⟨b, o + 4, none⟩ = some (.string r.d)) (exact T) ((first | (go_at_call 11; refine (H1.out _).mono ?_; rintro e w5 ⟨rfl, k5⟩; replace KK := Keeps.trans KK k5; replace T := HT.out _ KK; clear k5) | (go_at_call 12; refine (H2.out _).mono ?_; rintro e w5 ⟨rfl, k5⟩; replace KK := Keeps.trans KK k5; replace T := HT.out _ KK; clear k5)))
      clear T HT
      go_wp2_with fail
      go_roundw
      case rel => exact ⟨j + 1, by omega, by go_num, K1.drew.trans KK⟩
      case measure => simp [intOf]; omega
    · obtain rfl : j = l.length := by omega
      have HF1 := hide (From_any _ l wr (RD.out.keeps K1) (by omega) hsz)
      have HF2 := hide (fun W (k : Keeps wr W) => refFrom_any _ l W ((RD.out.keeps K1).keeps k) (by omega) hsz)
      obtain ⟨hn1, hn2⟩ := from_len l
      generalize fromM l = ss at *
      go_wp2_with fail
      refine (HF1.out).mono ?_
      intro e w2 hE
      obtain ⟨va, rfl, ra, k2⟩ := hE
      clear HF1
      go_wp2_with fail
      refine (HF2.out _ k2).mono ?_
      intro e w3 hE
      obtain ⟨vb, rfl, rb, k3⟩ := hE
      clear HF2
      have HSS := refSets_any va vb ss ss w3 (ra.keeps k3) rb (by unfold maxLen; omega) (by unfold maxLen; omega) (fun s hs => by have := hn2 s hs; omega)
      rw [decide_eq_true rfl] at HSS
      go_wp2_with fail
      refine HSS.mono ?_
      rintro e w4 ⟨rfl, k4⟩
      go_wp2_with fail
      refine (live10_any _).mono ?_
      rintro e wz ⟨rfl, kz⟩
      go_wp2
      go_ret
      exact ⟨rfl, ((((K.out.trans K1).trans k2).trans k3).trans k4).trans kz⟩
end Go.Proofs.Ytdfhojhljfcolaa
