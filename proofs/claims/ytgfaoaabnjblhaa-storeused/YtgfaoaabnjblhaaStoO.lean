/- What StoreUsed puts: sets of numbers. -/
import Derived.Test.YtgfaoaabnjblhaaLStoreNil
namespace Go.Proofs.Ytgfaoaabnjblhaa
open Go.RowKit

def oneN (i : Int) : ByteArray := ⟨#[2, UInt8.ofNat (97 + i / 26).toNat, UInt8.ofNat (97 + i % 26).toNat, 0]⟩
/-- The set of a number. -/
def oneS (i : Int) : St := ⟨⟨oneN i, 1, 1⟩, [[49, 49, 49, 49]], 99⟩
theorem oneN_eq (i : Int) : (⟨#[2]⟩ ++ ⟨#[UInt8.ofNat (97 + i / 26).toNat, UInt8.ofNat (97 + i % 26).toNat]⟩ ++ ⟨#[0]⟩ : ByteArray) = oneN i := by
  unfold oneN
  rw [ByteArray.ext_iff]
  simp
def OneEnd (w : World) (i : Int) (e : Ending) (w' : World) : Prop := ∃ a c, e = .returned (.agg #[.string (oneN i), .int .i64 1, .int .i64 1, .slice (some a) 1 c, .int .i64 99]) ∧ ReadS w' (.slice (some a) 1 c) [[49, 49, 49, 49]] ∧ Keeps w w'
theorem Keeps.five {a b : World} (h : Keeps a b) (G : Nat) (hle : a.heap.size ≤ G) (p q r s t : Value) : Keeps a (((((b.setCell ⟨G, 0, none⟩ p).setCell ⟨G, 1, none⟩ q).setCell ⟨G, 2, none⟩ r).setCell ⟨G, 3, none⟩ s).setCell ⟨G, 4, none⟩ t) :=
  ((((h.setC _ hle _).setC _ hle _).setC _ hle _).setC _ hle _).setC _ hle _

set_option maxHeartbeats 8000000 in
set_option maxRecDepth 100000 in
theorem one14_any (i : Int) (w : World) (h0 : 0 ≤ i) (h1 : i ≤ 80) :
    Calls Try.prog 31 #[.int .i64 i] w fun e w' => OneEnd w i e w' := by
  have B := hide (Blk.made w #[.string ⟨#[]⟩, .int .i64 0, .int .i64 0, .slice none 0 0, .int .i64 0] 35)
  have K := hide ((Keeps.refl w).alloc (.cells #[.string ⟨#[]⟩, .int .i64 0, .int .i64 0, .slice none 0 0, .int .i64 0] 35))
  go_enter Try.func31, Try.ntmps31
  go_upto_region 1 with fail
  generalize w.alloc (.cells #[.string ⟨#[]⟩, .int .i64 0, .int .i64 0, .slice none 0 0, .int .i64 0] 35) = W at *
  have hle : Hid (w.heap.size ≤ w.heap.size) := Nat.le_refl _
  generalize hG : w.heap.size = G at B ⊢
  replace hG := hide hG
  have hq : Int.tdiv i 26 = i / 26 := Int.tdiv_eq_ediv_of_nonneg h0
  have hm : Int.tmod i 26 = i % 26 := Int.tmod_eq_emod_of_nonneg h0
  have hcv : (convert 86 9 (.slice (some ⟨W.heap.size, 0, none⟩) 2 2)).run Try.prog (W.alloc (.cells #[.int .u8 (97 + i / 26), .int .u8 (97 + i % 26)] 5)) = .ok (.string ⟨#[UInt8.ofNat (97 + i / 26).toNat, UInt8.ofNat (97 + i % 26).toNat]⟩) (W.alloc (.cells #[.int .u8 (97 + i / 26), .int .u8 (97 + i % 26)] 5)) := by
    exact conv_new (P := Try.prog) 86 9 5 Try.underlying86 Try.underlying5 Try.underlying9 #[.int .u8 (97 + i / 26), .int .u8 (97 + i % 26)] [UInt8.ofNat (97 + i / 26).toNat, UInt8.ofNat (97 + i % 26).toNat] 2 2 rfl (by
      have e1 : (((97 + i / 26).toNat % 256 : Nat) : Int) = 97 + i / 26 := by omega
      have e2 : (((97 + i % 26).toNat % 256 : Nat) : Int) = 97 + i % 26 := by omega
      simp only [List.map_cons, List.map_nil, bv, UInt8.toNat_ofNat']
      rw [show (2 : Nat) ^ 8 = 256 from rfl, e1, e2]) W
  have r1 : ∀ w, (Op.stringOp .add (⟨#[2]⟩ : ByteArray) ⟨#[UInt8.ofNat (97 + i / 26).toNat, UInt8.ofNat (97 + i % 26).toNat]⟩).run Try.prog w = .ok (.string (⟨#[2]⟩ ++ ⟨#[UInt8.ofNat (97 + i / 26).toNat, UInt8.ofNat (97 + i % 26).toNat]⟩)) w := fun w => run_string_add_sum w _ _ (by show 1 + 2 ≤ _; omega)
  have r2 : ∀ w, (Op.stringOp .add (⟨#[2]⟩ ++ ⟨#[UInt8.ofNat (97 + i / 26).toNat, UInt8.ofNat (97 + i % 26).toNat]⟩ : ByteArray) ⟨#[0]⟩).run Try.prog w = .ok (.string (oneN i)) w := fun w => by
    rw [← oneN_eq]
    exact run_string_add_sum w _ _ (by rw [ByteArray.size_append]; show 1 + 2 + 1 ≤ _; omega)
  obtain ⟨c0, c1, c2, c3, c4⟩ : W.cell? ⟨G, 0, none⟩ = some (.string ⟨#[]⟩) ∧ W.cell? ⟨G, 1, none⟩ = some (.int .i64 0) ∧ W.cell? ⟨G, 2, none⟩ = some (.int .i64 0) ∧ W.cell? ⟨G, 3, none⟩ = some (.slice none 0 0) ∧ W.cell? ⟨G, 4, none⟩ = some (.int .i64 0) := ⟨B.out.cell 0, B.out.cell 1, B.out.cell 2, B.out.cell 3, B.out.cell 4⟩
  have hlt : G < W.heap.size := B.out.lt
  obtain ⟨f0, f1, f2, f3, f4⟩ : W.frozen? ⟨G, 0, none⟩ = false ∧ W.frozen? ⟨G, 1, none⟩ = false ∧ W.frozen? ⟨G, 2, none⟩ = false ∧ W.frozen? ⟨G, 3, none⟩ = false ∧ W.frozen? ⟨G, 4, none⟩ = false := ⟨B.out.frozen 0, B.out.frozen 1, B.out.frozen 2, B.out.frozen 3, B.out.frozen 4⟩
  have HD := hide (dataD (Blk.made (((((W.setCell ⟨G, 0, none⟩ (.string (oneN i))).setCell ⟨G, 1, none⟩ (.int .i64 1)).setCell ⟨G, 2, none⟩ (.int .i64 1)).setCell ⟨G, 3, none⟩ (.slice (some ⟨W.heap.size + 1, 0, none⟩) 1 1)).setCell ⟨G, 4, none⟩ (.int .i64 99) |>.alloc (.cells #[.int .u8 (97 + i / 26), .int .u8 (97 + i % 26)] 5)) #[.string ⟨#[49, 49, 49, 49]⟩] 9))
  generalize UInt8.ofNat (97 + i / 26).toNat = u1 at hcv r1 r2
  generalize UInt8.ofNat (97 + i % 26).toNat = u2 at hcv r1 r2
  have HEND : Hid (∀ a c e W', e = .returned (.agg #[.string (oneN i), .int .i64 1, .int .i64 1, .slice (some a) 1 c, .int .i64 99]) → ReadS W' (.slice (some a) 1 c) [[49, 49, 49, 49]] → Keeps w W' → OneEnd w i e W') := fun a c e W' h1 h2 h3 => ⟨a, c, h1, h2, h3⟩
  generalize oneN i = N at *
  have K3 := hide (((K.out.five G (Nat.le_of_eq hG.out) (.string N) (.int .i64 1) (.int .i64 1) (.slice (some ⟨W.heap.size + 1, 0, none⟩) 1 1) (.int .i64 99)).alloc (.cells #[.int .u8 (97 + i / 26), .int .u8 (97 + i % 26)] 5)).alloc (.cells #[.string ⟨#[49, 49, 49, 49]⟩] 9))
  have B3 : Blk (((((((W.setCell ⟨G, 0, none⟩ (.string N)).setCell ⟨G, 1, none⟩ (.int .i64 1)).setCell ⟨G, 2, none⟩ (.int .i64 1)).setCell ⟨G, 3, none⟩ (.slice (some ⟨W.heap.size + 1, 0, none⟩) 1 1)).setCell ⟨G, 4, none⟩ (.int .i64 99)).alloc (.cells #[.int .u8 (97 + i / 26), .int .u8 (97 + i % 26)] 5)).alloc (.cells #[.string ⟨#[49, 49, 49, 49]⟩] 9)) G #[.string N, .int .i64 1, .int .i64 1, .slice (some ⟨W.heap.size + 1, 0, none⟩) 1 1, .int .i64 99] 35 := by
    have h := ((((((B.out.set 0 (.string N)).set 1 (.int .i64 1)).set 2 (.int .i64 1)).set 3 (.slice (some ⟨W.heap.size + 1, 0, none⟩) 1 1)).set 4 (.int .i64 99)).alloc (.cells #[.int .u8 (97 + i / 26), .int .u8 (97 + i % 26)] 5)).alloc (.cells #[.string ⟨#[49, 49, 49, 49]⟩] 9)
    simpa using h
  replace B3 := hide B3
  rw [size_allocG] at HD
  rw [show ((((((W.setCell ⟨G, 0, none⟩ (.string N)).setCell ⟨G, 1, none⟩ (.int .i64 1)).setCell ⟨G, 2, none⟩ (.int .i64 1)).setCell ⟨G, 3, none⟩ (.slice (some ⟨W.heap.size + 1, 0, none⟩) 1 1)).setCell ⟨G, 4, none⟩ (.int .i64 99))).heap.size = W.heap.size by simp [World.setCell]] at HD
  clear B K
  go_wp2_with fail
  generalize ((((((W.setCell ⟨G, 0, none⟩ (.string N)).setCell ⟨G, 1, none⟩ (.int .i64 1)).setCell ⟨G, 2, none⟩ (.int .i64 1)).setCell ⟨G, 3, none⟩ (.slice (some ⟨W.heap.size + 1, 0, none⟩) 1 1)).setCell ⟨G, 4, none⟩ (.int .i64 99)).alloc (.cells #[.int .u8 (97 + i / 26), .int .u8 (97 + i % 26)] 5)).alloc (.cells #[.string ⟨#[49, 49, 49, 49]⟩] 9) = W9 at *
  have s0 := B3.out.cell 0
  have s1 := B3.out.cell 1
  have s2 := B3.out.cell 2
  have s3 := B3.out.cell 3
  have s4 := B3.out.cell 4
  simp only [List.getElem?_toArray, List.getElem?_cons_zero, List.getElem?_cons_succ] at s0 s1 s2 s3 s4
  exact bodyPost_ret (v := .agg #[.string N, .int .i64 1, .int .i64 1, .slice (some ⟨W.heap.size + 1, 0, none⟩) 1 1, .int .i64 99]) (by simp [results, Try.results31, go_sem, s0, s1, s2, s3, s4]) rfl (HEND.out _ _ _ _ rfl HD.out K3.out)
end Go.Proofs.Ytgfaoaabnjblhaa
