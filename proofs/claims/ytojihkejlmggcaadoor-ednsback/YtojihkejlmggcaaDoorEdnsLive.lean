/- The examples that the statements of layer 9 ask for answer true. The condition: the table of places reads as the program's text lays it. -/
import Derived.Test.YtojihkejlmggcaaDoorEdns6
namespace Go.Proofs.YtojihkejlmggcaaDoor
open Go.RowKit

def lo : Op := ⟨true, 1232, 1, 2, true⟩
def lr : Rec := ⟨⟨#[0]⟩, 41, 1232, 16941056, ⟨#[]⟩⟩
def lm1 : Ms := ⟨0, 0, [], [], [], [lr]⟩
def lm2 : Ms := ⟨0, 0, [], [], [], [lr, lr]⟩
def lm3 : Ms := ⟨0, 0, [], [lr], [], []⟩
theorem lr_fine : ∀ x ∈ [lr, lr], x.n.size ≤ maxLen ∧ x.d.size ≤ maxLen := by
  intro x hx
  simp only [List.mem_cons, List.not_mem_nil, or_false, or_self] at hx
  subst hx
  exact ⟨by unfold maxLen; decide, by unfold maxLen; decide⟩
theorem lm0_fine : MsFine noMs := ⟨⟨Nat.zero_le _, by simp [noMs]⟩, ⟨Nat.zero_le _, by simp [noMs]⟩, ⟨Nat.zero_le _, by simp [noMs]⟩, ⟨Nat.zero_le _, by simp [noMs]⟩⟩
theorem lm1_fine : MsFine lm1 := ⟨⟨Nat.zero_le _, by simp [lm1]⟩, ⟨Nat.zero_le _, by simp [lm1]⟩, ⟨Nat.zero_le _, by simp [lm1]⟩, ⟨by unfold maxLen; decide, fun x hx => lr_fine x (by simp [lm1] at hx; simp [hx])⟩⟩
theorem lm2_fine : MsFine lm2 := ⟨⟨Nat.zero_le _, by simp [lm2]⟩, ⟨Nat.zero_le _, by simp [lm2]⟩, ⟨Nat.zero_le _, by simp [lm2]⟩, ⟨by unfold maxLen; decide, fun x hx => lr_fine x (by simp [lm2] at hx; simp [hx])⟩⟩
theorem lm3_fine : MsFine lm3 := ⟨⟨Nat.zero_le _, by simp [lm3]⟩, ⟨by unfold maxLen; decide, fun x hx => lr_fine x (by simp [lm3] at hx; simp [hx])⟩, ⟨Nat.zero_le _, by simp [lm3]⟩, ⟨Nat.zero_le _, by simp [lm3]⟩⟩
theorem Blk.row9 {w : World} {G : Nat} {cs : Array Value} {ty : TypeId} (h : Blk w G cs ty) (c : Nat) : ReadRow w (.slice (some ⟨G, 0, none⟩) 1 1) c [cs.toList] := by
  refine ⟨_, 1, rfl, by simp, fun _ => ⟨G, 0, rfl, h.lt, fun i hi j hj => ?_⟩⟩
  have : i = 0 := by simpa using hi
  subst this
  simp only [Nat.zero_mul, Nat.zero_add]
  simp [h.cell j]
theorem ms_ar {w : World} {G : Nat} {ty : TypeId} {r : Rec} (h : Blk w G #[.string r.n, .int .i64 r.t, .int .i64 r.c, .int .i64 r.l, .string r.d] ty) :
    MsAt w (.agg #[.int .i64 0, .int .i64 0, .slice none 0 0, .slice none 0 0, .slice none 0 0, .slice (some ⟨G, 0, none⟩) 1 1]) ⟨0, 0, [], [], [], [r]⟩ := ⟨_, _, _, _, rfl, ReadRow.nil, ReadRow.nil, ReadRow.nil, h.row9 5⟩
theorem ms_an {w : World} {G : Nat} {ty : TypeId} {r : Rec} (h : Blk w G #[.string r.n, .int .i64 r.t, .int .i64 r.c, .int .i64 r.l, .string r.d] ty) :
    MsAt w (.agg #[.int .i64 0, .int .i64 0, .slice none 0 0, .slice (some ⟨G, 0, none⟩) 1 1, .slice none 0 0, .slice none 0 0]) ⟨0, 0, [], [r], [], []⟩ := ⟨_, _, _, _, rfl, ReadRow.nil, h.row9 5, ReadRow.nil, ReadRow.nil⟩
theorem ms_no (w : World) : MsAt w (.agg #[.int .i64 0, .int .i64 0, .slice none 0 0, .slice none 0 0, .slice none 0 0, .slice none 0 0]) noMs := ⟨_, _, _, _, rfl, ReadRow.nil, ReadRow.nil, ReadRow.nil, ReadRow.nil⟩
theorem ms_ar2 {w : World} {G : Nat} {ty : TypeId} {r s : Rec} (h : Blk w G #[.string r.n, .int .i64 r.t, .int .i64 r.c, .int .i64 r.l, .string r.d, .string s.n, .int .i64 s.t, .int .i64 s.c, .int .i64 s.l, .string s.d] ty) :
    MsAt w (.agg #[.int .i64 0, .int .i64 0, .slice none 0 0, .slice none 0 0, .slice none 0 0, .slice (some ⟨G, 0, none⟩) 2 2]) ⟨0, 0, [], [], [], [r, s]⟩ := by
  refine ⟨_, _, _, _, rfl, ReadRow.nil, ReadRow.nil, ReadRow.nil, ⟨_, 2, rfl, by simp, fun _ => ⟨G, 0, rfl, h.lt, fun i hi j hj => ?_⟩⟩⟩
  have hi2 : i = 0 ∨ i = 1 := by simp at hi; omega
  have hj2 : j = 0 ∨ j = 1 ∨ j = 2 ∨ j = 3 ∨ j = 4 := by omega
  rcases hi2 with rfl | rfl <;> rcases hj2 with rfl | rfl | rfl | rfl | rfl <;> exact h.cell _
theorem l9_rec : recV (opRec lo) = .agg #[.string ⟨#[0]⟩, .int .i64 41, .int .i64 1232, .int .i64 16941056, .string ⟨#[]⟩] := by
  rw [show opRec lo = lr by decide +kernel]
  rfl
theorem l9_recn : recV (opRec noOp) = .agg #[.string ⟨#[]⟩, .int .i64 0, .int .i64 0, .int .i64 0, .string ⟨#[]⟩] := by
  rw [show opRec noOp = noRec by decide +kernel]
  rfl
theorem l9_ok : opOk lo = true := by decide
theorem l9_okn : opOk noOp = false := by decide
theorem l9_f1 : opV (findM lm1).1 = .agg #[.bool true, .int .i64 1232, .int .i64 1, .int .i64 2, .bool true] := by
  rw [show (findM lm1).1 = lo by decide +kernel]
  rfl
theorem l9_f1e : (findM lm1).2 = 0 := by decide +kernel
theorem l9_f2 : opV (findM lm2).1 = .agg #[.bool false, .int .i64 0, .int .i64 0, .int .i64 0, .bool false] := by
  rw [show (findM lm2).1 = noOp by decide +kernel]
  rfl
theorem l9_f2e : (findM lm2).2 = 7 := by decide +kernel
theorem l9_f3 : opV (findM lm3).1 = .agg #[.bool false, .int .i64 0, .int .i64 0, .int .i64 0, .bool false] := by
  rw [show (findM lm3).1 = noOp by decide +kernel]
  rfl
theorem l9_f3e : (findM lm3).2 = 7 := by decide +kernel
theorem l9_f4 : opV (findM noMs).1 = .agg #[.bool false, .int .i64 0, .int .i64 0, .int .i64 0, .bool false] := by
  rw [show (findM noMs).1 = noOp by decide +kernel]
  rfl
theorem l9_f4e : (findM noMs).2 = 0 := by decide +kernel
theorem l9_l1 : opLimit lo = 1232 := by decide +kernel
theorem l9_l2 : opLimit noOp = 512 := by decide +kernel
theorem l9_l3 : opLimit ⟨true, 9000, 0, 0, false⟩ = 4096 := by decide +kernel
theorem l9_c1 : opCode 33152 lo = 16 := by decide +kernel
theorem l9_c2 : opCode 33155 noOp = 3 := by decide +kernel

set_option maxHeartbeats 8000000 in
set_option maxRecDepth 100000 in
theorem live9_any (w : World) (ht : Tab w) : Calls Tryd.prog 9 #[] w fun e w' => e = .returned (.bool true) ∧ Keeps w w' := by
  have K := hide (Keeps.refl w)
  have T := hide ht
  clear ht
  go_enter Tryd.func9, Tryd.ntmps9
  go_upto_region 2 with fail
  have k1 := (Keeps.refl w).alloc (.cells #[.bool true, .int .i64 1232, .int .i64 1, .int .i64 2, .bool true] 29)
  have BO := hide (Blk.made w #[.bool true, .int .i64 1232, .int .i64 1, .int .i64 2, .bool true] 29)
  replace K := hide (K.out.trans k1)
  replace T := hide (T.out.keeps k1)
  clear k1
  generalize w.alloc (.cells #[.bool true, .int .i64 1232, .int .i64 1, .int .i64 2, .bool true] 29) = W1 at *
  generalize w.heap.size = G1 at *
  obtain ⟨bo0, bo1, bo2, bo3, bo4, bo5, bo6, bo7, bo8, bo9, bo10⟩ := BO.out.cell5
  go_wp2_with fail
  clear bo0 bo1 bo2 bo3 bo4 bo5 bo6 bo7 bo8 bo9 bo10
  refine (record_any lo _).mono ?_
  rintro e w1 ⟨rfl, k1⟩
  replace BO := hide (BO.out.keeps k1)
  replace K := hide (K.out.trans k1)
  replace T := hide (T.out.keeps k1)
  clear k1
  rw [l9_rec]
  rw [l9_ok]
  go_upto_region 3 with fail
  have k1 := (Keeps.refl w1).alloc (.cells #[.string ⟨#[0]⟩, .int .i64 41, .int .i64 1232, .int .i64 16941056, .string ⟨#[]⟩] 37)
  have BR := hide (Blk.made w1 #[.string ⟨#[0]⟩, .int .i64 41, .int .i64 1232, .int .i64 16941056, .string ⟨#[]⟩] 37)
  replace BO := hide (BO.out.keeps k1)
  replace K := hide (K.out.trans k1)
  replace T := hide (T.out.keeps k1)
  clear k1
  generalize w1.alloc (.cells #[.string ⟨#[0]⟩, .int .i64 41, .int .i64 1232, .int .i64 16941056, .string ⟨#[]⟩] 37) = W2 at *
  generalize w1.heap.size = G2 at *
  obtain ⟨br0, br1, br2, br3, br4, br5, br6, br7, br8, br9, br10⟩ := BR.out.cell5
  go_wp2_with fail
  clear br0 br1 br2 br3 br4 br5 br6 br7 br8 br9 br10
  have k1 := (Keeps.refl W2).alloc (.cells #[.string ⟨#[0]⟩, .int .i64 41, .int .i64 1232, .int .i64 16941056, .string ⟨#[]⟩] 37)
  have BS := hide (Blk.made W2 #[.string ⟨#[0]⟩, .int .i64 41, .int .i64 1232, .int .i64 16941056, .string ⟨#[]⟩] 37)
  replace BO := hide (BO.out.keeps k1)
  replace BR := hide (BR.out.keeps k1)
  replace K := hide (K.out.trans k1)
  replace T := hide (T.out.keeps k1)
  clear k1
  generalize W2.alloc (.cells #[.string ⟨#[0]⟩, .int .i64 41, .int .i64 1232, .int .i64 16941056, .string ⟨#[]⟩] 37) = W3 at *
  generalize W2.heap.size = G3 at *
  refine (Find_any _ lm1 _ (ms_ar BS.out) lm1_fine).mono ?_
  rintro e w2 ⟨rfl, k1⟩
  replace BO := hide (BO.out.keeps k1)
  replace BR := hide (BR.out.keeps k1)
  replace BS := hide (BS.out.keeps k1)
  replace K := hide (K.out.trans k1)
  replace T := hide (T.out.keeps k1)
  clear k1
  rw [l9_f1]
  rw [l9_f1e]
  go_upto_region 4 with fail
  have k1 := (Keeps.refl w2).alloc (.cells #[.bool true, .int .i64 1232, .int .i64 1, .int .i64 2, .bool true] 29)
  have BK := hide (Blk.made w2 #[.bool true, .int .i64 1232, .int .i64 1, .int .i64 2, .bool true] 29)
  replace BO := hide (BO.out.keeps k1)
  replace BR := hide (BR.out.keeps k1)
  replace K := hide (K.out.trans k1)
  replace T := hide (T.out.keeps k1)
  clear k1
  generalize w2.alloc (.cells #[.bool true, .int .i64 1232, .int .i64 1, .int .i64 2, .bool true] 29) = W4 at *
  generalize w2.heap.size = G4 at *
  obtain ⟨br0, br1, br2, br3, br4, br5, br6, br7, br8, br9, br10⟩ := BR.out.cell5
  go_wp2_with fail
  clear br0 br1 br2 br3 br4 br5 br6 br7 br8 br9 br10
  have k1 := (Keeps.refl W4).alloc (.cells #[.string ⟨#[0]⟩, .int .i64 41, .int .i64 1232, .int .i64 16941056, .string ⟨#[]⟩, .string ⟨#[0]⟩, .int .i64 41, .int .i64 1232, .int .i64 16941056, .string ⟨#[]⟩] 37)
  have BS := hide (Blk.made W4 #[.string ⟨#[0]⟩, .int .i64 41, .int .i64 1232, .int .i64 16941056, .string ⟨#[]⟩, .string ⟨#[0]⟩, .int .i64 41, .int .i64 1232, .int .i64 16941056, .string ⟨#[]⟩] 37)
  replace BO := hide (BO.out.keeps k1)
  replace BR := hide (BR.out.keeps k1)
  replace BK := hide (BK.out.keeps k1)
  replace K := hide (K.out.trans k1)
  replace T := hide (T.out.keeps k1)
  clear k1
  generalize W4.alloc (.cells #[.string ⟨#[0]⟩, .int .i64 41, .int .i64 1232, .int .i64 16941056, .string ⟨#[]⟩, .string ⟨#[0]⟩, .int .i64 41, .int .i64 1232, .int .i64 16941056, .string ⟨#[]⟩] 37) = W5 at *
  generalize W4.heap.size = G5 at *
  refine (Find_any _ lm2 _ (ms_ar2 BS.out) lm2_fine).mono ?_
  rintro e w3 ⟨rfl, k1⟩
  replace BO := hide (BO.out.keeps k1)
  replace BR := hide (BR.out.keeps k1)
  replace BK := hide (BK.out.keeps k1)
  replace BS := hide (BS.out.keeps k1)
  replace K := hide (K.out.trans k1)
  replace T := hide (T.out.keeps k1)
  clear k1
  rw [l9_f2]
  rw [l9_f2e]
  go_upto_region 5 with fail
  have k1 := (Keeps.refl w3).alloc (.cells #[.bool false, .int .i64 0, .int .i64 0, .int .i64 0, .bool false] 29)
  have BZ0 := hide (Blk.made w3 #[.bool false, .int .i64 0, .int .i64 0, .int .i64 0, .bool false] 29)
  replace BO := hide (BO.out.keeps k1)
  replace BR := hide (BR.out.keeps k1)
  replace BK := hide (BK.out.keeps k1)
  replace K := hide (K.out.trans k1)
  replace T := hide (T.out.keeps k1)
  clear k1
  generalize w3.alloc (.cells #[.bool false, .int .i64 0, .int .i64 0, .int .i64 0, .bool false] 29) = W6 at *
  generalize w3.heap.size = G6 at *
  obtain ⟨br0, br1, br2, br3, br4, br5, br6, br7, br8, br9, br10⟩ := BR.out.cell5
  go_wp2_with fail
  clear br0 br1 br2 br3 br4 br5 br6 br7 br8 br9 br10
  have k1 := (Keeps.refl W6).alloc (.cells #[.string ⟨#[0]⟩, .int .i64 41, .int .i64 1232, .int .i64 16941056, .string ⟨#[]⟩] 37)
  have BS := hide (Blk.made W6 #[.string ⟨#[0]⟩, .int .i64 41, .int .i64 1232, .int .i64 16941056, .string ⟨#[]⟩] 37)
  replace BO := hide (BO.out.keeps k1)
  replace BR := hide (BR.out.keeps k1)
  replace BK := hide (BK.out.keeps k1)
  replace K := hide (K.out.trans k1)
  replace T := hide (T.out.keeps k1)
  clear k1
  generalize W6.alloc (.cells #[.string ⟨#[0]⟩, .int .i64 41, .int .i64 1232, .int .i64 16941056, .string ⟨#[]⟩] 37) = W7 at *
  generalize W6.heap.size = G7 at *
  refine (Find_any _ lm3 _ (ms_an BS.out) lm3_fine).mono ?_
  rintro e w4 ⟨rfl, k1⟩
  replace BO := hide (BO.out.keeps k1)
  replace BR := hide (BR.out.keeps k1)
  replace BK := hide (BK.out.keeps k1)
  replace BS := hide (BS.out.keeps k1)
  replace K := hide (K.out.trans k1)
  replace T := hide (T.out.keeps k1)
  clear k1
  rw [l9_f3]
  rw [l9_f3e]
  go_upto_region 6 with fail
  have k1 := (Keeps.refl w4).alloc (.cells #[.bool false, .int .i64 0, .int .i64 0, .int .i64 0, .bool false] 29)
  have BZ1 := hide (Blk.made w4 #[.bool false, .int .i64 0, .int .i64 0, .int .i64 0, .bool false] 29)
  replace BO := hide (BO.out.keeps k1)
  replace BR := hide (BR.out.keeps k1)
  replace BK := hide (BK.out.keeps k1)
  replace K := hide (K.out.trans k1)
  replace T := hide (T.out.keeps k1)
  clear k1
  generalize w4.alloc (.cells #[.bool false, .int .i64 0, .int .i64 0, .int .i64 0, .bool false] 29) = W8 at *
  generalize w4.heap.size = G8 at *
  go_wp2_with fail
  refine (Find_any _ noMs _ (ms_no _) lm0_fine).mono ?_
  rintro e w5 ⟨rfl, k1⟩
  replace BO := hide (BO.out.keeps k1)
  replace BR := hide (BR.out.keeps k1)
  replace BK := hide (BK.out.keeps k1)
  replace K := hide (K.out.trans k1)
  replace T := hide (T.out.keeps k1)
  clear k1
  rw [l9_f4]
  rw [l9_f4e]
  go_upto_region 7 with fail
  have k1 := (Keeps.refl w5).alloc (.cells #[.bool false, .int .i64 0, .int .i64 0, .int .i64 0, .bool false] 29)
  have BZ := hide (Blk.made w5 #[.bool false, .int .i64 0, .int .i64 0, .int .i64 0, .bool false] 29)
  replace BO := hide (BO.out.keeps k1)
  replace BR := hide (BR.out.keeps k1)
  replace BK := hide (BK.out.keeps k1)
  replace K := hide (K.out.trans k1)
  replace T := hide (T.out.keeps k1)
  clear k1
  generalize w5.alloc (.cells #[.bool false, .int .i64 0, .int .i64 0, .int .i64 0, .bool false] 29) = W9 at *
  generalize w5.heap.size = G9 at *
  obtain ⟨bz0, bz1, bz2, bz3, bz4, bz5, bz6, bz7, bz8, bz9, bz10⟩ := BZ.out.cell5
  go_wp2_with fail
  clear bz0 bz1 bz2 bz3 bz4 bz5 bz6 bz7 bz8 bz9 bz10
  refine (record_any noOp _).mono ?_
  rintro e w6 ⟨rfl, k1⟩
  replace BO := hide (BO.out.keeps k1)
  replace BR := hide (BR.out.keeps k1)
  replace BK := hide (BK.out.keeps k1)
  replace BZ := hide (BZ.out.keeps k1)
  replace K := hide (K.out.trans k1)
  replace T := hide (T.out.keeps k1)
  clear k1
  rw [l9_recn]
  rw [l9_okn]
  go_upto_region 8 with fail
  have k1 := (Keeps.refl w6).alloc (.cells #[.string ⟨#[]⟩, .int .i64 0, .int .i64 0, .int .i64 0, .string ⟨#[]⟩] 37)
  have BN := hide (Blk.made w6 #[.string ⟨#[]⟩, .int .i64 0, .int .i64 0, .int .i64 0, .string ⟨#[]⟩] 37)
  replace BO := hide (BO.out.keeps k1)
  replace BR := hide (BR.out.keeps k1)
  replace BK := hide (BK.out.keeps k1)
  replace BZ := hide (BZ.out.keeps k1)
  replace K := hide (K.out.trans k1)
  replace T := hide (T.out.keeps k1)
  clear k1
  generalize w6.alloc (.cells #[.string ⟨#[]⟩, .int .i64 0, .int .i64 0, .int .i64 0, .string ⟨#[]⟩] 37) = W10 at *
  generalize w6.heap.size = G10 at *
  obtain ⟨bo0, bo1, bo2, bo3, bo4, bo5, bo6, bo7, bo8, bo9, bo10⟩ := BO.out.cell5
  obtain ⟨br0, br1, br2, br3, br4, br5, br6, br7, br8, br9, br10⟩ := BR.out.cell5
  obtain ⟨bk0, bk1, bk2, bk3, bk4, bk5, bk6, bk7, bk8, bk9, bk10⟩ := BK.out.cell5
  obtain ⟨bz0, bz1, bz2, bz3, bz4, bz5, bz6, bz7, bz8, bz9, bz10⟩ := BZ.out.cell5
  go_wp2_with fail
  clear bo0 bo1 bo2 bo3 bo4 bo5 bo6 bo7 bo8 bo9 bo10 br0 br1 br2 br3 br4 br5 br6 br7 br8 br9 br10 bk0 bk1 bk2 bk3 bk4 bk5 bk6 bk7 bk8 bk9 bk10 bz0 bz1 bz2 bz3 bz4 bz5 bz6 bz7 bz8 bz9 bz10
  refine (limit_any lo _).mono ?_
  rintro e v1 ⟨rfl, k1⟩
  replace BO := hide (BO.out.keeps k1)
  replace BR := hide (BR.out.keeps k1)
  replace BK := hide (BK.out.keeps k1)
  replace BZ := hide (BZ.out.keeps k1)
  replace K := hide (K.out.trans k1)
  replace T := hide (T.out.keeps k1)
  clear k1
  rw [l9_l1]
  obtain ⟨bo0, bo1, bo2, bo3, bo4, bo5, bo6, bo7, bo8, bo9, bo10⟩ := BO.out.cell5
  obtain ⟨br0, br1, br2, br3, br4, br5, br6, br7, br8, br9, br10⟩ := BR.out.cell5
  obtain ⟨bk0, bk1, bk2, bk3, bk4, bk5, bk6, bk7, bk8, bk9, bk10⟩ := BK.out.cell5
  obtain ⟨bz0, bz1, bz2, bz3, bz4, bz5, bz6, bz7, bz8, bz9, bz10⟩ := BZ.out.cell5
  go_wp2_with fail
  clear bo0 bo1 bo2 bo3 bo4 bo5 bo6 bo7 bo8 bo9 bo10 br0 br1 br2 br3 br4 br5 br6 br7 br8 br9 br10 bk0 bk1 bk2 bk3 bk4 bk5 bk6 bk7 bk8 bk9 bk10 bz0 bz1 bz2 bz3 bz4 bz5 bz6 bz7 bz8 bz9 bz10
  refine (limit_any noOp _).mono ?_
  rintro e v2 ⟨rfl, k1⟩
  replace BO := hide (BO.out.keeps k1)
  replace BR := hide (BR.out.keeps k1)
  replace BK := hide (BK.out.keeps k1)
  replace BZ := hide (BZ.out.keeps k1)
  replace K := hide (K.out.trans k1)
  replace T := hide (T.out.keeps k1)
  clear k1
  rw [l9_l2]
  obtain ⟨bo0, bo1, bo2, bo3, bo4, bo5, bo6, bo7, bo8, bo9, bo10⟩ := BO.out.cell5
  obtain ⟨br0, br1, br2, br3, br4, br5, br6, br7, br8, br9, br10⟩ := BR.out.cell5
  obtain ⟨bk0, bk1, bk2, bk3, bk4, bk5, bk6, bk7, bk8, bk9, bk10⟩ := BK.out.cell5
  obtain ⟨bz0, bz1, bz2, bz3, bz4, bz5, bz6, bz7, bz8, bz9, bz10⟩ := BZ.out.cell5
  go_wp2_with fail
  clear bo0 bo1 bo2 bo3 bo4 bo5 bo6 bo7 bo8 bo9 bo10 br0 br1 br2 br3 br4 br5 br6 br7 br8 br9 br10 bk0 bk1 bk2 bk3 bk4 bk5 bk6 bk7 bk8 bk9 bk10 bz0 bz1 bz2 bz3 bz4 bz5 bz6 bz7 bz8 bz9 bz10
  refine (limit_any ⟨true, 9000, 0, 0, false⟩ _).mono ?_
  rintro e v3 ⟨rfl, k1⟩
  replace BO := hide (BO.out.keeps k1)
  replace BR := hide (BR.out.keeps k1)
  replace BK := hide (BK.out.keeps k1)
  replace BZ := hide (BZ.out.keeps k1)
  replace K := hide (K.out.trans k1)
  replace T := hide (T.out.keeps k1)
  clear k1
  rw [l9_l3]
  obtain ⟨bo0, bo1, bo2, bo3, bo4, bo5, bo6, bo7, bo8, bo9, bo10⟩ := BO.out.cell5
  obtain ⟨br0, br1, br2, br3, br4, br5, br6, br7, br8, br9, br10⟩ := BR.out.cell5
  obtain ⟨bk0, bk1, bk2, bk3, bk4, bk5, bk6, bk7, bk8, bk9, bk10⟩ := BK.out.cell5
  obtain ⟨bz0, bz1, bz2, bz3, bz4, bz5, bz6, bz7, bz8, bz9, bz10⟩ := BZ.out.cell5
  go_wp2_with fail
  clear bo0 bo1 bo2 bo3 bo4 bo5 bo6 bo7 bo8 bo9 bo10 br0 br1 br2 br3 br4 br5 br6 br7 br8 br9 br10 bk0 bk1 bk2 bk3 bk4 bk5 bk6 bk7 bk8 bk9 bk10 bz0 bz1 bz2 bz3 bz4 bz5 bz6 bz7 bz8 bz9 bz10
  refine (code_any 33152 lo _ T.out (by decide)).mono ?_
  rintro e v4 ⟨rfl, k1⟩
  replace BO := hide (BO.out.keeps k1)
  replace BR := hide (BR.out.keeps k1)
  replace BK := hide (BK.out.keeps k1)
  replace BZ := hide (BZ.out.keeps k1)
  replace K := hide (K.out.trans k1)
  replace T := hide (T.out.keeps k1)
  clear k1
  rw [l9_c1]
  obtain ⟨bo0, bo1, bo2, bo3, bo4, bo5, bo6, bo7, bo8, bo9, bo10⟩ := BO.out.cell5
  obtain ⟨br0, br1, br2, br3, br4, br5, br6, br7, br8, br9, br10⟩ := BR.out.cell5
  obtain ⟨bk0, bk1, bk2, bk3, bk4, bk5, bk6, bk7, bk8, bk9, bk10⟩ := BK.out.cell5
  obtain ⟨bz0, bz1, bz2, bz3, bz4, bz5, bz6, bz7, bz8, bz9, bz10⟩ := BZ.out.cell5
  go_wp2_with fail
  clear bo0 bo1 bo2 bo3 bo4 bo5 bo6 bo7 bo8 bo9 bo10 br0 br1 br2 br3 br4 br5 br6 br7 br8 br9 br10 bk0 bk1 bk2 bk3 bk4 bk5 bk6 bk7 bk8 bk9 bk10 bz0 bz1 bz2 bz3 bz4 bz5 bz6 bz7 bz8 bz9 bz10
  refine (code_any 33155 noOp _ T.out (by decide)).mono ?_
  rintro e v5 ⟨rfl, k1⟩
  replace BO := hide (BO.out.keeps k1)
  replace BR := hide (BR.out.keeps k1)
  replace BK := hide (BK.out.keeps k1)
  replace BZ := hide (BZ.out.keeps k1)
  replace K := hide (K.out.trans k1)
  replace T := hide (T.out.keeps k1)
  clear k1
  rw [l9_c2]
  obtain ⟨bo0, bo1, bo2, bo3, bo4, bo5, bo6, bo7, bo8, bo9, bo10⟩ := BO.out.cell5
  obtain ⟨br0, br1, br2, br3, br4, br5, br6, br7, br8, br9, br10⟩ := BR.out.cell5
  obtain ⟨bk0, bk1, bk2, bk3, bk4, bk5, bk6, bk7, bk8, bk9, bk10⟩ := BK.out.cell5
  obtain ⟨bz0, bz1, bz2, bz3, bz4, bz5, bz6, bz7, bz8, bz9, bz10⟩ := BZ.out.cell5
  go_wp2
  go_ret
  exact ⟨rfl, K.out⟩
end Go.Proofs.YtojihkejlmggcaaDoor
