/- EdnsTells answers true, for every input: the walk. The condition: the table of places reads as the program's text lays it. -/
import Derived.Test.YtojihkejlmggcaaDoorEdns7
namespace Go.Proofs.YtojihkejlmggcaaDoor
open Go.RowKit

/-- Four boxes of five cells. -/
def Four (G1 G2 G3 G4 : Nat) (h : Bool) (s x u : Int) (d : Bool) (rn : ByteArray) (rt rc rl : Int) (rd : ByteArray) (w' : World) : Prop :=
  w'.cell? ⟨G1, 0, none⟩ = some (.bool h) ∧ w'.cell? ⟨G1, 1, none⟩ = some (.int .i64 s) ∧ w'.cell? ⟨G1, 2, none⟩ = some (.int .i64 x) ∧ w'.cell? ⟨G1, 3, none⟩ = some (.int .i64 u) ∧ w'.cell? ⟨G1, 4, none⟩ = some (.bool d) ∧
  w'.cell? ⟨G2, 0, none⟩ = some (.bool h) ∧ w'.cell? ⟨G2, 1, none⟩ = some (.int .i64 s) ∧ w'.cell? ⟨G2, 2, none⟩ = some (.int .i64 x) ∧ w'.cell? ⟨G2, 3, none⟩ = some (.int .i64 u) ∧ w'.cell? ⟨G2, 4, none⟩ = some (.bool d) ∧
  w'.cell? ⟨G3, 0, none⟩ = some (.string rn) ∧ w'.cell? ⟨G3, 1, none⟩ = some (.int .i64 rt) ∧ w'.cell? ⟨G3, 2, none⟩ = some (.int .i64 rc) ∧ w'.cell? ⟨G3, 3, none⟩ = some (.int .i64 rl) ∧ w'.cell? ⟨G3, 4, none⟩ = some (.string rd) ∧
  w'.cell? ⟨G4, 0, none⟩ = some (.string rn) ∧ w'.cell? ⟨G4, 1, none⟩ = some (.int .i64 rt) ∧ w'.cell? ⟨G4, 2, none⟩ = some (.int .i64 rc) ∧ w'.cell? ⟨G4, 3, none⟩ = some (.int .i64 rl) ∧ w'.cell? ⟨G4, 4, none⟩ = some (.string rd)
theorem Four.keeps {G1 G2 G3 G4 : Nat} {h : Bool} {s x u : Int} {d : Bool} {rn : ByteArray} {rt rc rl : Int} {rd : ByteArray} {w w' : World} (f : Four G1 G2 G3 G4 h s x u d rn rt rc rl rd w) (k : Keeps w w') : Four G1 G2 G3 G4 h s x u d rn rt rc rl rd w' := by
  have go : ∀ {p : Addr} {v : Value}, w.cell? p = some v → w'.cell? p = some v := fun {p v} e => (Below.cell k (World.block_lt_of_cell? w _ e)).trans e
  obtain ⟨a0, a1, a2, a3, a4, b0, b1, b2, b3, b4, c0, c1, c2, c3, c4, d0, d1, d2, d3, d4⟩ := f
  exact ⟨go a0, go a1, go a2, go a3, go a4, go b0, go b1, go b2, go b3, go b4, go c0, go c1, go c2, go c3, go c4, go d0, go d1, go d2, go d3, go d4⟩

set_option maxHeartbeats 4000000 in
set_option maxRecDepth 100000 in
theorem EdnsTells_walk (o : Op) (b : Int) (w : World) (T : Tab w) (_ : -9223372036854775808 ≤ b ∧ b ≤ 9223372036854775807) :
    Calls Tryd.prog 4 #[opV o, .int .i64 b] w fun e w' => e = .returned (.bool true) ∧ Keeps w w' := by
  have HT := hide T
  clear T
  have HR := hide (fun W => record_any o W)
  have HQ := hide (fun W => refrecord_any o W)
  have HL := hide (fun W => limit_any o W)
  have HM := hide (fun W => reflimit_any o W)
  have HC := hide (fun W (t : Tab W) => code_any b o W t)
  have HD := hide (fun W => refcode_any b o W)
  generalize opRec o = R at *
  generalize opOk o = ok at *
  generalize opLimit o = L at *
  generalize opCode b o = C at *
  obtain ⟨h, s, x, u, d⟩ := o
  obtain ⟨rn, rt, rc, rl, rd⟩ := R
  simp only [recV, opV] at HR HQ HL HM HC HD
  unfold opV
  have B := hide (Blk.made w #[.bool h, .int .i64 s, .int .i64 x, .int .i64 u, .bool d] 33)
  have K := hide ((Keeps.refl w).alloc (.cells #[.bool h, .int .i64 s, .int .i64 x, .int .i64 u, .bool d] 33))
  go_enter Tryd.func4, Tryd.ntmps4
  go_upto_region 1 with fail
  generalize w.alloc (.cells #[.bool h, .int .i64 s, .int .i64 x, .int .i64 u, .bool d] 33) = W at *
  generalize w.heap.size = G1 at *
  obtain ⟨b0, b1, b2, b3, b4, _, _, _, _, _, _⟩ := B.out.cell5
  by_cases x1 : 1099511627776 < x
  · go_wp2_with fail
    refine (live9_any _ (HT.out.keeps K.out)).mono ?_
    rintro e w4 ⟨rfl, k1⟩
    go_wp2
    go_ret
    exact ⟨rfl, K.out.trans k1⟩
  by_cases x2 : x < -1099511627776
  · go_wp2_with fail
    refine (live9_any _ (HT.out.keeps K.out)).mono ?_
    rintro e w4 ⟨rfl, k1⟩
    go_wp2
    go_ret
    exact ⟨rfl, K.out.trans k1⟩
  replace HC := hide (fun W t => HC.out W t ⟨by omega, by omega⟩)
  replace HD := hide (fun W => HD.out W ⟨by omega, by omega⟩)
  go_upto_region 4 with fail
  clear b0 b1 b2 b3 b4
  have k1 := (Keeps.refl W).alloc (.cells #[.bool h, .int .i64 s, .int .i64 x, .int .i64 u, .bool d] 29)
  have BX := hide (Blk.made W #[.bool h, .int .i64 s, .int .i64 x, .int .i64 u, .bool d] 29)
  replace B := hide (B.out.keeps k1)
  replace K := hide (K.out.trans k1)
  clear k1
  generalize W.alloc (.cells #[.bool h, .int .i64 s, .int .i64 x, .int .i64 u, .bool d] 29) = W2 at *
  generalize W.heap.size = G2 at *
  obtain ⟨b0, b1, b2, b3, b4, _, _, _, _, _, _⟩ := BX.out.cell5
  go_wp2_with fail
  refine (HR.out _).mono ?_
  rintro e w2 ⟨rfl, k1⟩
  replace K := hide (K.out.trans k1)
  replace B := hide (B.out.keeps k1)
  replace BX := hide (BX.out.keeps k1)
  clear k1 b0 b1 b2 b3 b4 HR
  go_upto_region 5 with fail
  have k1 := (Keeps.refl w2).alloc (.cells #[.string rn, .int .i64 rt, .int .i64 rc, .int .i64 rl, .string rd] 37)
  have BA := hide (Blk.made w2 #[.string rn, .int .i64 rt, .int .i64 rc, .int .i64 rl, .string rd] 37)
  replace K := hide (K.out.trans k1)
  replace B := hide (B.out.keeps k1)
  replace BX := hide (BX.out.keeps k1)
  clear k1
  generalize w2.alloc (.cells #[.string rn, .int .i64 rt, .int .i64 rc, .int .i64 rl, .string rd] 37) = W3 at *
  generalize w2.heap.size = G3 at *
  obtain ⟨b0, b1, b2, b3, b4, _, _, _, _, _, _⟩ := B.out.cell5
  go_wp2_with fail
  refine (HQ.out _).mono ?_
  rintro e w3 ⟨rfl, k1⟩
  replace K := hide (K.out.trans k1)
  replace B := hide (B.out.keeps k1)
  replace BX := hide (BX.out.keeps k1)
  replace BA := hide (BA.out.keeps k1)
  clear k1 b0 b1 b2 b3 b4 HQ
  go_upto_region 6 with fail
  have k1 := (Keeps.refl w3).alloc (.cells #[.string rn, .int .i64 rt, .int .i64 rc, .int .i64 rl, .string rd] 37)
  have BB := hide (Blk.made w3 #[.string rn, .int .i64 rt, .int .i64 rc, .int .i64 rl, .string rd] 37)
  replace K := hide (K.out.trans k1)
  replace B := hide (B.out.keeps k1)
  replace BX := hide (BX.out.keeps k1)
  replace BA := hide (BA.out.keeps k1)
  clear k1
  generalize w3.alloc (.cells #[.string rn, .int .i64 rt, .int .i64 rc, .int .i64 rl, .string rd] 37) = W4 at *
  generalize w3.heap.size = G4 at *
  have T1 : Four G1 G2 G3 G4 h s x u d rn rt rc rl rd W4.drew := by
    obtain ⟨a0, a1, a2, a3, a4, _, _, _, _, _, _⟩ := B.out.cell5
    obtain ⟨b0, b1, b2, b3, b4, _, _, _, _, _, _⟩ := BX.out.cell5
    obtain ⟨c0, c1, c2, c3, c4, _, _, _, _, _, _⟩ := BA.out.cell5
    obtain ⟨d0, d1, d2, d3, d4, _, _, _, _, _, _⟩ := BB.out.cell5
    exact ⟨a0, a1, a2, a3, a4, b0, b1, b2, b3, b4, c0, c1, c2, c3, c4, d0, d1, d2, d3, d4⟩
  have KK : Keeps w W4.drew := K.out.drew
  clear B BX BA BB K
  go_region_held3 (fun w' => w'.cell? ⟨G1, 0, none⟩ = some (.bool h) ∧ w'.cell? ⟨G1, 1, none⟩ = some (.int .i64 s) ∧ w'.cell? ⟨G1, 2, none⟩ = some (.int .i64 x) ∧ w'.cell? ⟨G1, 3, none⟩ = some (.int .i64 u) ∧ w'.cell? ⟨G1, 4, none⟩ = some (.bool d) ∧
  w'.cell? ⟨G2, 0, none⟩ = some (.bool h) ∧ w'.cell? ⟨G2, 1, none⟩ = some (.int .i64 s) ∧ w'.cell? ⟨G2, 2, none⟩ = some (.int .i64 x) ∧ w'.cell? ⟨G2, 3, none⟩ = some (.int .i64 u) ∧ w'.cell? ⟨G2, 4, none⟩ = some (.bool d) ∧
  w'.cell? ⟨G3, 0, none⟩ = some (.string rn) ∧ w'.cell? ⟨G3, 1, none⟩ = some (.int .i64 rt) ∧ w'.cell? ⟨G3, 2, none⟩ = some (.int .i64 rc) ∧ w'.cell? ⟨G3, 3, none⟩ = some (.int .i64 rl) ∧ w'.cell? ⟨G3, 4, none⟩ = some (.string rd) ∧
  w'.cell? ⟨G4, 0, none⟩ = some (.string rn) ∧ w'.cell? ⟨G4, 1, none⟩ = some (.int .i64 rt) ∧ w'.cell? ⟨G4, 2, none⟩ = some (.int .i64 rc) ∧ w'.cell? ⟨G4, 3, none⟩ = some (.int .i64 rl) ∧ w'.cell? ⟨G4, 4, none⟩ = some (.string rd)) (exact T1) ((first | (go_at_call 14; refine (HL.out _).mono ?_; rintro e w5 ⟨rfl, k5⟩; replace T1 := Four.keeps T1 k5; replace KK := Keeps.trans KK k5; clear k5) | (go_at_call 15; refine (HM.out _).mono ?_; rintro e w5 ⟨rfl, k5⟩; replace T1 := Four.keeps T1 k5; replace KK := Keeps.trans KK k5; clear k5) | (go_at_call 16; refine (HC.out _ (HT.out.keeps KK)).mono ?_; rintro e w5 ⟨rfl, k5⟩; replace T1 := Four.keeps T1 k5; replace KK := Keeps.trans KK k5; clear k5) | (go_at_call 17; refine (HD.out _).mono ?_; rintro e w5 ⟨rfl, k5⟩; replace T1 := Four.keeps T1 k5; replace KK := Keeps.trans KK k5; clear k5) | (go_at_call 9; refine (live9_any _ (HT.out.keeps KK)).mono ?_; rintro e w5 ⟨rfl, k5⟩; replace T1 := Four.keeps T1 k5; replace KK := Keeps.trans KK k5; clear k5)))
  go_wp2
  go_ret
  exact ⟨rfl, KK⟩
end Go.Proofs.YtojihkejlmggcaaDoor
