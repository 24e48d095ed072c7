/- Lists of questions, the program's own functions on them. No condition but lengths. Lists of questions: cut; and the document's words on them. No condition but lengths. -/
import Derived.Test.YtdlaepfnogmebaaLruR
import Derived.Test.YtdlaepfnogmebaaCloneQ
import Derived.Test.YtdlaepfnogmebaaGrpA
import Derived.Test.YtdlaepfnogmebaaGrp5
import Derived.Defers
import Derived.Recover
namespace Go.Proofs.Ytdlaepfnogmebaa
open Go.RowKit

theorem catch_q (p : Addr) (w : World) :
    CallsD Try.prog 133 #[.pointer (some p)] .returning w fun e u' w' => e = .returned (.tuple #[]) ∧ u' = .returning ∧ w' = w := by
  refine callsD_of_wpS Try.func133 rfl fun c₀ cs hu => ?_
  apply wpS_seq
  apply wpS_region
  simp [wpOpsS, go_sem, recoverD, hu, Try.ntmps133, Exit.thenS]
  refine wpS_cond (t := false) (by simp [Act.eval, Array.replicate]) ?_
  simp only [Bool.false_eq_true, if_false]
  refine wpS_of_wp (wp_skip ?_)
  cases c₀
  simp_all [bodyPostS, results, Try.results133]

set_option maxHeartbeats 4000000 in
set_option maxRecDepth 100000 in
theorem itself_q (x : Qn) (w : World) : Calls Try.prog 116 #[.agg #[.string x.n, .int .i64 x.t, .int .i64 x.c]] w fun e w' => e = .returned (.bool true) ∧ Keeps w w' := by
  have hmf : ∀ (fn : Fn) (first cap : Array Value) (w : World), (Instr.makeFunc fn first cap).run Try.prog w = .ok (.func fn first cap) w := fun _ _ _ _ => rfl
  have rq := eql_qn x x
  rw [decide_eq_true rfl] at rq
  have K := hide (((Keeps.refl w).alloc (.cells #[.string x.n, .int .i64 x.t, .int .i64 x.c] 32)).alloc (.cells #[.bool false] 4))
  have B := hide ((Blk.made w #[.string x.n, .int .i64 x.t, .int .i64 x.c] 32).alloc (.cells #[.bool false] 4))
  have O := Blk.made (w.alloc (.cells #[.string x.n, .int .i64 x.t, .int .i64 x.c] 32)) #[.bool false] 4
  rw [size_allocG] at O
  replace O := hide O
  go_enter_defers Try.func116, Try.ntmps116
  go_upto_region 2 with fail
  generalize hW : (w.alloc (.cells #[.string x.n, .int .i64 x.t, .int .i64 x.c] 32)).alloc (.cells #[.bool false] 4) = W at *
  have hH : Hid (w.heap.size ≤ w.heap.size + 1) := Nat.le_succ _
  generalize w.heap.size + 1 = H at *
  generalize w.heap.size = G at B ⊢
  clear hW
  obtain ⟨⟨b0, b1, b2⟩, _, _⟩ := B.out.three
  go_upto_region 3 with fail
  have N3 := hide (Blk.made W #[.string x.n, .int .i64 x.t, .int .i64 x.c] 32)
  replace B := hide (B.out.alloc (.cells #[.string x.n, .int .i64 x.t, .int .i64 x.c] 32))
  replace O := hide (O.out.alloc (.cells #[.string x.n, .int .i64 x.t, .int .i64 x.c] 32))
  replace K := hide (K.out.alloc (.cells #[.string x.n, .int .i64 x.t, .int .i64 x.c] 32))
  generalize W.alloc (.cells #[.string x.n, .int .i64 x.t, .int .i64 x.c] 32) = W2 at *
  generalize W.heap.size = N at *
  clear b0 b1 b2
  obtain ⟨⟨b0, b1, b2⟩, _, _⟩ := B.out.three
  obtain ⟨⟨n0, n1, n2⟩, _, _⟩ := N3.out.three
  have o0 := O.out.cell 0
  have of := O.out.frozen 0
  go_wp2
  refine leaves_cons (f := 133) (args := #[.pointer (some ⟨H, 0, none⟩)]) (by simp) (by simp [go_sem]) ?_
  refine (catch_q ⟨H, 0, none⟩ _).mono ?_
  rintro e u' w'' ⟨rfl, rfl, rfl⟩
  have K9 : Keeps w (W2.setCell ⟨H, 0, none⟩ (.bool true)) := Keeps.setC K.out _ hH.out _
  have o9 : (W2.setCell ⟨H, 0, none⟩ (.bool true)).cell? ⟨H, 0, none⟩ = some (.bool true) := (O.out.set 0 (.bool true)).cell 0
  simpa [Leaves, settle, results, Try.results116, go_sem, o9] using K9

theorem qnL_ones (q : Qn) : ∀ u ∈ qnL q, u.oneCell' = true := by
  intro u hu
  simp [qnL] at hu
  rcases hu with rfl | rfl | rfl <;> rfl
def QCELLS (q : Qn) : Array Value := #[.string q.n, .int .i64 q.t, .int .i64 q.c]
theorem cells_q (w : World) (q : Qn) : ∀ j u, (qnL q)[j]? = some u → (w.alloc (.cells #[.string q.n, .int .i64 q.t, .int .i64 q.c] 32)).cell? ((⟨w.heap.size, 0, none⟩ : Addr).add j) = some u := by
  intro j u hu
  have h := (Blk.made w #[.string q.n, .int .i64 q.t, .int .i64 q.c] 32).cell j
  rw [add_none, Nat.zero_add, h, ← hu]
  simp [qnL]

def DropRelq (W : World) (l : List Qn) (k : Qn) (v i : Value) (wr : World) : Prop :=
  ∃ j : Nat, j ≤ l.length ∧ i = .int .i64 j ∧ OwnsR wr W.heap.size 32 3 v ((Lr.drop (l.take j) k).map qnL) ∧ Keeps W wr

set_option maxHeartbeats 8000000 in
set_option maxRecDepth 100000 in
theorem Drop_q (v : Value) (l : List Qn) (k : Qn) (w : World) (hv : ReadRow w v 3 (l.map qnL)) (hl : l.length ≤ 1000000) :
    Calls Try.prog 80 #[v, .agg #[.string k.n, .int .i64 k.t, .int .i64 k.c]] w fun e w' => REnd w 32 3 ((Lr.drop l k).map qnL) e w' := by
  obtain ⟨a, cap, h1⟩ := hv.len
  rw [List.length_map] at h1
  subst h1
  have HI := hide (fun W => itself_q k W)
  obtain ⟨i0, hi, hz0, hz1, hz2⟩ := info_parts Try.infoQ
  have B := hide (Blk.made w #[.string k.n, .int .i64 k.t, .int .i64 k.c] 32)
  have K0 := hide ((Keeps.refl w).alloc (.cells #[.string k.n, .int .i64 k.t, .int .i64 k.c] 32))
  go_enter Try.func80, Try.ntmps80
  go_upto_region 1 with fail
  generalize w.alloc (.cells #[.string k.n, .int .i64 k.t, .int .i64 k.c] 32) = W at *
  have RD := hide (hv.keeps K0.out)
  clear hv
  generalize hG : w.heap.size = G at B ⊢
  replace hG := hide hG
  go_wp2_with (refine wpList_make_own _ rfl _ _ 57 rfl W.heap.size 32 i0 _ 3 Try.underlying57 hi hz0 hz1 .i64 .i64 _ (l.length + 1) rfl rfl ?c1 ?c2 ?c3 ?c4 ?_)
  case c1 => go_num
  case c2 => rw [hz2]; omega
  case c3 => unfold maxLen; omega
  case c4 => exact Nat.le_refl _
  intro wm hownm hgm
  have k1 : Keeps W wm := Below.grown (Below.refl _ _) hgm (Nat.le_refl _) fun k hk => by cases hk
  have OW : OwnsR wm W.heap.size 32 3 (.slice (some ⟨W.heap.size, 0, none⟩) 0 (l.length + 1)) [] := ⟨hownm, by simp⟩
  clear hownm hgm hi hz0 hz1 hz2
  replace OW := hide OW
  have K := hide k1
  obtain ⟨⟨b0, b1, b2⟩, _, _⟩ := (B.out.keeps k1).three
  clear k1
  go_wp2_with fail
  refine (HI.out _).mono ?_
  rintro e w1 ⟨rfl, k1⟩
  replace OW := hide (OW.out.below k1)
  replace K := hide (K.out.trans k1)
  clear k1 HI b0 b1 b2
  go_wp2_with fail
  go_loopw [5, 8, 17] (fun v _ i wr => DropRelq W l k v i wr) (fun _ _ i _ => l.length - (intOf i).toNat)
  case atStart => exact ⟨0, by omega, rfl, by simpa [Lr.drop] using OW.out, K.out⟩
  case round =>
    clear OW K
    obtain ⟨j, hj, rfl, hown, K⟩ := hrel
    replace hown := hide hown
    replace K := hide K
    by_cases hlt : j < l.length
    · have i2 : (j : Int) < (l.length : Int) := by omega
      have i0 : (0 : Int) ≤ (j : Int) := by omega
      have hv2 := RD.out.keeps K.out
      obtain ⟨b, off, rfl, _, _⟩ := hv2.parts (by rw [List.length_map]; omega)
      obtain ⟨c0, c1, c2⟩ := row3 hv2 hlt
      have HST := hide (Lr.drop_step l k j hlt)
      have HLT : Hid (((Lr.drop (l.take j) k).map qnL).length ≤ j) := by
        have := Lr.drop_len (l.take j) k
        rw [List.length_take] at this
        rw [Hid, List.length_map]
        omega
      have rn := neq_qn l[j] k
      generalize hoo : off + j * 3 = o at *
      generalize l[j] = x at *
      clear hv2
      have X := hide (Blk.made wr #[.string x.n, .int .i64 x.t, .int .i64 x.c] 32)
      have hown2 := hide (hown.out.alloc (.cells #[.string x.n, .int .i64 x.t, .int .i64 x.c] 32))
      have K2 := hide (K.out.alloc (.cells #[.string x.n, .int .i64 x.t, .int .i64 x.c] 32))
      go_upto_region 6 with fail
      generalize wr.alloc (.cells #[.string x.n, .int .i64 x.t, .int .i64 x.c] 32) = W6 at *
      generalize wr.heap.size = X6 at *
      clear c0 c1 c2 hown K
      obtain ⟨⟨b0, b1, b2⟩, _, _⟩ := (B.out.keeps K2.out).three
      obtain ⟨⟨x0, x1, x2⟩, _, _⟩ := X.out.three
      by_cases he : x = k
      · rw [decide_eq_true he] at rn
        have HN : Hid (Lr.drop (l.take (j + 1)) k = Lr.drop (l.take j) k) := by rw [Hid, HST.out, if_pos he, List.append_nil]
        have H5 : Hid (OwnsR W6 W.heap.size 32 3 u5 ((Lr.drop (l.take (j + 1)) k).map qnL)) := by rw [Hid, HN.out]; exact hown2.out
        replace he := hide he
        clear HST hown2
        go_wp2_with fail
        go_roundw
        case rel => exact ⟨j + 1, by omega, by go_num, H5.out, K2.out⟩
        case measure => simp [intOf]; omega
      · rw [decide_eq_false he] at rn
        have HN : Hid ((Lr.drop (l.take (j + 1)) k).map qnL = (Lr.drop (l.take j) k).map qnL ++ [qnL x]) := by rw [Hid, HST.out, if_neg he, List.map_append]; rfl
        replace he := hide he
        clear HST
        generalize hLL : (Lr.drop (l.take j) k).map qnL = LL at *
        have hownA := hide (hown2.out.alloc (.cells #[.string x.n, .int .i64 x.t, .int .i64 x.c] 32))
        go_wp2_with (at_builtin; refine wpList_appR 32 57 3 32 (qnV noQn) _ Try.underlying57 Try.infoQ rfl (by decide) rfl _ _ rfl W.heap.size _ _ rfl hownA.out _ _ (qnL x) rfl rfl (qnL_ones x) (cells_q _ x) ?c2 ?c3 ?c4 ?_)
        case c2 => have := HLT.out; unfold maxLen; omega
        case c3 => have := HLT.out; omega
        case c4 => exact (K2.out.alloc _).size
        intro v' w5 hown5 hb5 _
        have K5 := hide (show Keeps W w5 from Below.trans (K2.out.alloc _) hb5)
        have H5 : Hid (OwnsR w5 W.heap.size 32 3 v' ((Lr.drop (l.take (j + 1)) k).map qnL)) := by rw [Hid, HN.out]; exact hown5
        clear hown5 hb5
        go_wp2
        go_roundw
        case rel => exact ⟨j + 1, by omega, by go_num, H5.out, K5.out⟩
        case measure => simp [intOf]; omega
    · obtain rfl : j = l.length := by omega
      rw [List.take_length] at hown
      go_wp2
      go_ret
      exact REnd.mk (hown.out.le K0.out.size) (K0.out.trans K.out)

set_option maxHeartbeats 8000000 in
set_option maxRecDepth 100000 in
theorem Touch_q (v : Value) (l : List Qn) (k : Qn) (w : World) (hv : ReadRow w v 3 (l.map qnL)) (hl : l.length ≤ 1000000) :
    Calls Try.prog 78 #[v, .agg #[.string k.n, .int .i64 k.t, .int .i64 k.c]] w fun e w' => REnd w 32 3 ((Lr.touch l k).map qnL) e w' := by
  have HD := hide (fun W (kk : Keeps w W) => Drop_q v l k W (hv.keeps kk) hl)
  have HLT : Hid (((Lr.drop l k).map qnL).length ≤ l.length) := by rw [Hid, List.length_map]; exact Lr.drop_len l k
  have HN : Hid ((Lr.touch l k).map qnL = (Lr.drop l k).map qnL ++ [qnL k]) := by rw [Hid, Lr.touch, List.map_append]; rfl
  have B := hide (Blk.made w #[.string k.n, .int .i64 k.t, .int .i64 k.c] 32)
  have K := hide ((Keeps.refl w).alloc (.cells #[.string k.n, .int .i64 k.t, .int .i64 k.c] 32))
  clear hv
  go_enter Try.func78, Try.ntmps78
  go_upto_region 1 with fail
  generalize w.alloc (.cells #[.string k.n, .int .i64 k.t, .int .i64 k.c] 32) = W at *
  generalize hG : w.heap.size = G at B ⊢
  replace hG := hide hG
  have HC : Hid (∀ w', Keeps W w' → w'.cell? ⟨G, 0, none⟩ = some (.string k.n) ∧ w'.cell? ⟨G, 1, none⟩ = some (.int .i64 k.t) ∧ w'.cell? ⟨G, 2, none⟩ = some (.int .i64 k.c)) := fun w' kk => ⟨(B.out.keeps kk).cell 0, (B.out.keeps kk).cell 1, (B.out.keeps kk).cell 2⟩
  have T := HC.out _ (Keeps.refl W).drew
  have KK : Keeps W W.drew := (Keeps.refl W).drew
  have hKs := K.out.size
  have HL2 : Hid (((Lr.drop l k).map qnL).length + 1 ≤ maxLen) := by rw [Hid]; have := HLT.out; unfold maxLen; omega
  have HL3 : Hid ((((Lr.drop l k).map qnL).length + 1) * 32 ≤ 140737488355328) := by rw [Hid]; have := HLT.out; omega
  generalize hLL : (Lr.drop l k).map qnL = LL at *
  have HX : Hid (∀ (w1 w2 : World), Keeps (w1.alloc (.cells #[.string k.n, .int .i64 k.t, .int .i64 k.c] 32)) w2 → ∀ j u, (qnL k)[j]? = some u → w2.cell? ((⟨w1.heap.size, 0, none⟩ : Addr).add j) = some u) := fun w1 w2 kk j u hu => by
    have h := cells_q w1 k j u hu
    exact (Below.cell kk (World.block_lt_of_cell? _ _ h)).trans h
  go_region_held3 (fun w' => w'.cell? ⟨G, 0, none⟩ = some (.string k.n) ∧ w'.cell? ⟨G, 1, none⟩ = some (.int .i64 k.t) ∧ w'.cell? ⟨G, 2, none⟩ = some (.int .i64 k.c)) (first | exact T | exact HC.out _ KQ | exact HC.out _ (KK.alloc _)) ((first
    | (go_at_call 80; refine (HD.out _ (K.out.trans KK)).mono ?_; intro e w5 hE; obtain ⟨vd, rfl, od, k5⟩ := hE; replace od := od.le KK.size; replace KK := KK.trans k5; replace T := HC.out _ KK; clear k5)
    | (go_at_call 80; refine (HD.out _ (K.out.trans (KK.alloc _))).mono ?_; intro e w5 hE; obtain ⟨vd, rfl, od, k5⟩ := hE; replace od := od.le (KK.alloc _).size; have XC := HX.out _ _ k5; replace KK := (KK.alloc _).trans k5; replace T := HC.out _ KK; clear k5)
    | (refine step_appR 32 57 3 32 (qnV noQn) Try.underlying57 Try.infoQ rfl (by decide) rfl _ _ rfl W.heap.size _ _ rfl (od.alloc _) _ _ (qnL k) rfl rfl (qnL_ones k) (cells_q _ k) HL2.out HL3.out (KK.alloc _).size ?_; intro v5 w6 hown5 hb5; have KQ : Keeps W w6 := Below.trans (KK.alloc _) hb5)
    | (refine step_appR 32 57 3 32 (qnV noQn) Try.underlying57 Try.infoQ rfl (by decide) rfl _ _ rfl W.heap.size _ _ rfl od _ _ (qnL k) rfl rfl (qnL_ones k) XC HL2.out HL3.out KK.size ?_; intro v5 w6 hown5 hb5; have KQ : Keeps W w6 := Below.trans KK hb5)))
  all_goals
    have hfin : Hid (OwnsR w6 w.heap.size 32 3 v5 ((Lr.touch l k).map qnL)) := by rw [Hid, HN.out]; exact hown5.le hKs
    have KF := hide (K.out.trans KQ)
    clear hown5 hb5 KQ T KK od
    go_wp2
    go_ret
    exact REnd.mk hfin.out KF.out
end Go.Proofs.Ytdlaepfnogmebaa

namespace Go.Proofs.Ytdlaepfnogmebaa
open Go.RowKit

set_option maxHeartbeats 4000000 in
set_option maxRecDepth 100000 in
theorem Cut_q (v : Value) (l : List Qn) (k : Int) (w : World) (hv : ReadRow w v 3 (l.map qnL)) (hl : l.length ≤ 1000000) (hk : -9223372036854775808 ≤ k ∧ k ≤ 9223372036854775807) :
    Calls Try.prog 114 #[v, .int .i64 k] w fun e w' => CutEnd w 32 3 ((l.drop (Lr.cutAt l.length k)).map qnL) ((l.take (Lr.cutAt l.length k)).map qnL) e w' := by
  obtain ⟨a, cap, h1⟩ := hv.len
  rw [List.length_map] at h1
  subst h1
  have hcl := hide (Lr.cutAt_le l.length k)
  have hcv := hide (Lr.cutAt_val l.length k)
  go_enter Try.func114, Try.ntmps114
  obtain ⟨vs, r1, rr1⟩ := slice_lo (t := 57) (e := 32) (by kernel_rfl) (by kernel_rfl) 3 Try.sizeOf32 hv (Lr.cutAt l.length k) (by rw [List.length_map]; exact hcl.out)
  obtain ⟨vt, r2, rr2⟩ := slice_hi (t := 57) (e := 32) (by kernel_rfl) (by kernel_rfl) 3 Try.sizeOf32 hv (Lr.cutAt l.length k) (by rw [List.length_map]; exact hcl.out)
  rw [← List.map_drop] at rr1
  rw [← List.map_take] at rr2
  have HC1 := hide (fun W (kk : Keeps w W) => Clone_q vs _ W (rr1.keeps kk) (fun r hr => by obtain ⟨x, _, rfl⟩ := List.mem_map.1 hr; rfl) (fun r hr u hu => by obtain ⟨x, _, rfl⟩ := List.mem_map.1 hr; exact qnL_ones x u hu) (by simp; omega))
  have HC2 := hide (fun W (kk : Keeps w W) => Clone_q vt _ W (rr2.keeps kk) (fun r hr => by obtain ⟨x, _, rfl⟩ := List.mem_map.1 hr; rfl) (fun r hr u hu => by obtain ⟨x, _, rfl⟩ := List.mem_map.1 hr; exact qnL_ones x u hu) (by simp; omega))
  have KK : Keeps w w.drew := (Keeps.refl _).drew
  clear rr1 rr2 hv
  rw [hcv.out] at r1 r2
  go_upto_region 2 with fail
  clear hcv hcl
  go_region_held3 (fun _ => True) (trivial) ((first | (go_at_call 81; refine (HC1.out _ KK).mono ?_; intro e w5 hE; obtain ⟨va, rfl, ra, k5⟩ := hE; replace ra := ra.le KK.size; replace KK := Keeps.trans KK k5; clear k5 HC1) | (go_at_call 81; refine (HC2.out _ KK).mono ?_; intro e w6 hE; obtain ⟨vb, rfl, rb, k5⟩ := hE; replace rb := rb.le KK.size; replace KK := Keeps.trans KK k5; replace ra := ra.below k5; clear k5 HC2)))
  go_wp2
  go_ret2
  exact CutEnd.mk ra rb KK

set_option maxHeartbeats 4000000 in
set_option maxRecDepth 100000 in
theorem refKeys13_any (v u : Value) (l k : List Qn) (w : World) (hv : ReadRow w v 3 (l.map qnL)) (hu : ReadRow w u 3 (k.map qnL)) (hl : l.length ≤ maxLen) (hk : k.length ≤ maxLen) :
    Calls Try.prog 24 #[v, u] w fun e w' => e = .returned (.bool (decide (l = k))) ∧ Keeps w w' := by
  have hl' := hl
  have hk' := hk
  unfold maxLen at hl' hk'
  obtain ⟨a, cap, h1⟩ := hv.len
  obtain ⟨a2, cap2, h2⟩ := hu.len
  rw [List.length_map] at h1 h2
  subst h1 h2
  by_cases hlen : l.length = k.length
  · have hne : ((l.length : Int) != (k.length : Int)) = false := by rw [hlen]; simp
    go_enter Try.func24, Try.ntmps24
    go_wp2_with fail
    go_loopw [5] (fun i wr => ∃ j : Nat, j ≤ l.length ∧ i = .int .i64 j ∧ Hid (l.take j = k.take j) ∧ Keeps w wr) (fun i _ => l.length - (intOf i).toNat)
    case atStart => exact ⟨0, by omega, rfl, by simp [Hid], Keeps.refl _⟩
    case round =>
      obtain ⟨j, hj, rfl, HA, K⟩ := hrel
      by_cases hlt : j < l.length
      · have hv2 := hv.keeps K
        have hu2 := hu.keeps K
        have hlt2 : j < k.length := by omega
        have i2 : (j : Int) < (l.length : Int) := by omega
        have i3 : (j : Int) < (k.length : Int) := by omega
        have i0 : (0 : Int) ≤ (j : Int) := by omega
        obtain ⟨b, off, rfl, _, _⟩ := hv2.parts (by rw [List.length_map]; omega)
        obtain ⟨b2, off2, rfl, _, _⟩ := hu2.parts (by rw [List.length_map]; omega)
        obtain ⟨c0, c1, c2⟩ := row3 hv2 hlt
        obtain ⟨e0, e1, e2⟩ := row3 hu2 hlt2
        have HS := hide (fun e => take8_step hlt hlt2 HA.out e)
        have HN := hide (fun e => ne_at hlt hlt2 e)
        have rn := neq_qn l[j] k[j]
        generalize hoo : off + j * 3 = o at *
        generalize hoo2 : off2 + j * 3 = o2 at *
        generalize l[j] = x at *
        generalize k[j] = y at *
        clear hv2 hu2 hv hu
        by_cases he : x = y
        · have HE := hide (HS.out he)
          rw [decide_eq_true he] at rn
          clear he HS HN HA
          go_upto_region 6 with fail
          go_region
          go_wp2_with fail
          go_roundw
          case rel => exact ⟨j + 1, by omega, by go_num, HE, K.drew⟩
          case measure => simp [intOf]; omega
        · have HE := hide (HN.out he)
          rw [decide_eq_false he] at rn
          clear he HS HN HA
          go_upto_region 6 with fail
          go_region
          go_wp2
          go_ret
          exact ⟨ret_bool (decide_eq_false HE.out).symm, K.drew⟩
      · obtain rfl : j = l.length := by omega
        have HE : Hid (l = k) := by
          have := HA.out
          rw [List.take_length, hlen, List.take_length] at this
          exact this
        clear HA
        go_wp2
        go_ret
        exact ⟨ret_bool (decide_eq_true HE.out).symm, K⟩
  · have HE := hide (show decide (l = k) = false from decide_eq_false (fun e => hlen (by rw [e])))
    have hli : ¬ ((l.length : Int) = (k.length : Int)) := by omega
    have hbe : ((l.length : Int) != (k.length : Int)) = true := by rw [bne_iff_ne]; exact hli
    clear hv hu hlen
    go_enter Try.func24, Try.ntmps24
    go_wp2
    go_ret
    exact ⟨ret_bool HE.out.symm, Keeps.refl _⟩
end Go.Proofs.Ytdlaepfnogmebaa
