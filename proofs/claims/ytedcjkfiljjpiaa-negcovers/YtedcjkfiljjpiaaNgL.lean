/- The law's SOA, and its examples. No condition. (Made by tools/genlive15.py.) -/
import Derived.Test.YtedcjkfiljjpiaaNgU
import Derived.Test.YtedcjkfiljjpiaaNgG
import Derived.Test.YtedcjkfiljjpiaaNgD
namespace Go.Proofs.Ytedcjkfiljjpiaa
open Go.RowKit

def soaD : List UInt8 := [0, 0, 48, 49, 50, 51, 52, 53, 54, 55, 56, 57, 97, 98, 99, 100, 101, 102, 0, 0, 0, 9]
def soaS (ttl : Int) : St := ⟨⟨⟨#[0]⟩, 6, 1⟩, [soaD], ttl⟩
def SoaEnd (w : World) (ttl : Int) (e : Ending) (w' : World) : Prop := ∃ a c, e = .returned (.agg #[.string ⟨#[0]⟩, .int .i64 6, .int .i64 1, .slice (some a) 1 c, .int .i64 ttl]) ∧ ReadS w' (.slice (some a) 1 c) [soaD] ∧ Keeps w w'
theorem soaRead {w : World} {D : Nat} (h : Blk w D #[.string ⟨#[0, 0, 48, 49, 50, 51, 52, 53, 54, 55, 56, 57, 97, 98, 99, 100, 101, 102, 0, 0, 0, 9]⟩] 9) : ReadS w (.slice (some ⟨D, 0, none⟩) 1 1) [soaD] :=
  ReadS.mk (n := 1) rfl (fun i hi => by
    obtain rfl : i = 0 := by simpa using hi
    exact h.cell 0) (Nat.le_refl _)
set_option maxHeartbeats 4000000 in
set_option maxRecDepth 100000 in
theorem soa15_any (ttl : Int) (w : World) : Calls Try.prog 29 #[.int .i64 ttl] w fun e w' => SoaEnd w ttl e w' := by
  have B := hide (Blk.made w #[.string ⟨#[]⟩, .int .i64 0, .int .i64 0, .slice none 0 0, .int .i64 0] 35)
  have K := hide ((Keeps.refl w).alloc (.cells #[.string ⟨#[]⟩, .int .i64 0, .int .i64 0, .slice none 0 0, .int .i64 0] 35))
  go_enter Try.func29, Try.ntmps29
  go_upto_region 1 with fail
  generalize w.alloc (.cells #[.string ⟨#[]⟩, .int .i64 0, .int .i64 0, .slice none 0 0, .int .i64 0] 35) = W at *
  have hle : Hid (w.heap.size ≤ w.heap.size) := Nat.le_refl _
  have hGW : Hid (w.heap.size < W.heap.size) := B.out.lt
  generalize hG : w.heap.size = G at B hGW ⊢
  replace hG := hide hG
  have B1 := hide (B.out.alloc (.cells #[.string ⟨#[0, 0, 48, 49, 50, 51, 52, 53, 54, 55, 56, 57, 97, 98, 99, 100, 101, 102, 0, 0, 0, 9]⟩] 9))
  have DD := Blk.made W #[.string ⟨#[0, 0, 48, 49, 50, 51, 52, 53, 54, 55, 56, 57, 97, 98, 99, 100, 101, 102, 0, 0, 0, 9]⟩] 9
  have K1 := hide (K.out.alloc (.cells #[.string ⟨#[0, 0, 48, 49, 50, 51, 52, 53, 54, 55, 56, 57, 97, 98, 99, 100, 101, 102, 0, 0, 0, 9]⟩] 9))
  obtain ⟨⟨b0, b1, b2, b3, b4⟩, ⟨f0, f1, f2, f3, f4⟩, _⟩ := B1.out.five_all
  have X3 := hide (set5_blk B1.out (.string ⟨#[0]⟩) (.int .i64 6) (.int .i64 1) (.slice (some ⟨W.heap.size, 0, none⟩) 1 1) (.int .i64 ttl))
  have D3 := hide (soaRead (show Blk (set5 (W.alloc (.cells #[.string ⟨#[0, 0, 48, 49, 50, 51, 52, 53, 54, 55, 56, 57, 97, 98, 99, 100, 101, 102, 0, 0, 0, 9]⟩] 9)) G (.string ⟨#[0]⟩) (.int .i64 6) (.int .i64 1) (.slice (some ⟨W.heap.size, 0, none⟩) 1 1) (.int .i64 ttl)) W.heap.size _ _ from (heap_set5 _ _ _ _ _ _ _ _ (Nat.ne_of_gt hGW.out)).trans DD))
  have K3 := hide (set5_keeps K1.out (Nat.le_of_eq hG.out) (.string ⟨#[0]⟩) (.int .i64 6) (.int .i64 1) (.slice (some ⟨W.heap.size, 0, none⟩) 1 1) (.int .i64 ttl))
  unfold set5 at X3 D3 K3
  clear B B1 DD K K1
  go_wp2_with fail
  generalize (((((W.alloc (.cells #[.string ⟨#[0, 0, 48, 49, 50, 51, 52, 53, 54, 55, 56, 57, 97, 98, 99, 100, 101, 102, 0, 0, 0, 9]⟩] 9)).setCell ⟨G, 0, none⟩ (.string ⟨#[0]⟩)).setCell ⟨G, 1, none⟩ (.int .i64 6)).setCell ⟨G, 2, none⟩ (.int .i64 1)).setCell ⟨G, 3, none⟩ (.slice (some ⟨W.heap.size, 0, none⟩) 1 1)).setCell ⟨G, 4, none⟩ (.int .i64 ttl) = W9 at *
  obtain ⟨s0, s1, s2, s3, s4⟩ := X3.out.five_all.1
  exact bodyPost_ret (v := .agg #[.string ⟨#[0]⟩, .int .i64 6, .int .i64 1, .slice (some ⟨W.heap.size, 0, none⟩) 1 1, .int .i64 ttl]) (by simp [results, Try.results29, go_sem, s0, s1, s2, s3, s4]) rfl ⟨_, _, rfl, D3.out, K3.out⟩

/-! What the law's examples come to. -/
def ngA : Qn := ⟨⟨#[1, 97, 0]⟩, 1, 1⟩
def ngB : Qn := ⟨⟨#[1, 97, 0]⟩, 2, 1⟩
def ng0 : Ngs := ⟨2, [], 0⟩
def ngI1 : Ni := ⟨ngA, false, soaS 7, 12⟩
def ngI2 : Ni := ⟨⟨⟨#[1, 97, 0]⟩, 0, 1⟩, true, soaS 20, 14⟩
def ng1 : Ngs := ⟨2, [ngI1], 1⟩
def ng2 : Ngs := ⟨2, [ngI1, ngI2], 2⟩
def ng3 : Ngs := ⟨2, [], 3⟩
theorem ngu1 : Ng.minN (soaS 20) = 9 ∧ Ng.minOk (soaS 20) = true := by decide +kernel
theorem ngu2 : Ng.minN noSt = 0 ∧ Ng.minOk noSt = false := by decide +kernel
theorem ngu3 : Ng.putE 5 ngA (soaS 7) = 0 ∧ Ng.put ng0 5 ngA false (soaS 7) = ng1 := by decide +kernel
theorem ngu4 : Ng.findN ng1 11 ngA = some ngI1 := by decide +kernel
theorem ngu5 : Ng.findN ng1 12 ngA = none := by decide +kernel
theorem ngu6 : Ng.putE 5 ngA (soaS 20) = 0 ∧ Ng.put ng1 5 ngA true (soaS 20) = ng2 := by decide +kernel
theorem ngu7 : Ng.findN ng2 13 ngB = some ngI2 := by decide +kernel
theorem ngu8 : Ng.gone ng2 ⟨#[1, 97, 0]⟩ = 2 ∧ Ng.drop ng2 ⟨#[1, 97, 0]⟩ = ng3 := by decide +kernel
theorem ngu9 : Ng.putE 5 ngA (soaS 0) = 14 ∧ Ng.put ng3 5 ngA true (soaS 0) = ng3 := by decide +kernel
theorem ngu10 : Ng.putE (-1) ngA (soaS 1) = 1 ∧ Ng.put ng3 (-1) ngA true (soaS 1) = ng3 := by decide +kernel
theorem soaFine (ttl : Int) : StFine (soaS ttl) := ⟨by show (1 : Nat) ≤ maxLen; unfold maxLen; omega, by show (1 : Nat) ≤ maxLen; unfold maxLen; omega, fun d hd => by
  rw [show (soaS ttl).ds = [soaD] from rfl, List.mem_singleton] at hd
  subst hd
  show (22 : Nat) ≤ maxLen
  unfold maxLen; omega⟩
theorem soaIn (ttl : Int) (h : -9223372036854775808 ≤ ttl ∧ ttl ≤ 9223372036854775807) : StIn (soaS ttl) := ⟨⟨by show (1 : Nat) ≤ maxLen; unfold maxLen; omega, ⟨by show (-9223372036854775808 : Int) ≤ 6; omega, by show (6 : Int) ≤ 9223372036854775807; omega⟩, ⟨by show (-9223372036854775808 : Int) ≤ 1; omega, by show (1 : Int) ≤ 9223372036854775807; omega⟩⟩, h⟩
theorem ngFine : QnFine ngA ∧ QnFine ngB := ⟨⟨by show (3 : Nat) ≤ maxLen; unfold maxLen; omega, by unfold ngA; simp, by unfold ngA; simp⟩, ⟨by show (3 : Nat) ≤ maxLen; unfold maxLen; omega, by unfold ngB; simp, by unfold ngB; simp⟩⟩
theorem Find_any (p m : Nat) (s : Ngs) (now : Int) (q : Qn) (w : World) (h : NAt w p m s) (hq : QnFine q) :
    Calls Try.prog 17 #[.pointer (some ⟨p, 0, none⟩), .int .i64 now, .agg #[.string q.n, .int .i64 q.t, .int .i64 q.c]] w fun e w' => LiveNEnd w (Ng.findN s now q) e w' :=
  Find_gen _ (fun k => Ng.liveN s now k) now q w hq (fun W k kk hk => liveN_any p m s now k W (h.keeps kk) hk)
theorem Find_nil (now : Int) (q : Qn) (w : World) (hq : QnFine q) :
    Calls Try.prog 17 #[.pointer none, .int .i64 now, .agg #[.string q.n, .int .i64 q.t, .int .i64 q.c]] w fun e w' => LiveNEnd w none e w' :=
  Find_gen _ (fun _ => none) now q w hq (fun W k _ _ => liveN_nil now k W)

end Go.Proofs.Ytedcjkfiljjpiaa
