/- The document's store: something is put. No condition but lengths. (Made by tools/genrput14.py.) -/
import Derived.Test.YtdlaepfnogmebaaStoP
import Derived.Test.YtdlaepfnogmebaaGrpR2
namespace Go.Proofs.Ytdlaepfnogmebaa
open Go.RowKit

/-- 's[A:]', with the block in which it lies. -/
theorem slice_lo_blk {t e : TypeId} (ht : Try.prog.underlying t = some (.slice (Try.prog.elem t))) (he : Try.prog.elem t = e) (c : Nat) (hs : ∀ W, (sizeOf e).run Try.prog W = .ok c W) {w : World} {v : Value} {rows : List (List Value)} (h : ReadRow w v c rows) (A : Nat) (hA : A ≤ rows.length) {B : Nat} (hB : ∀ a n k, v = .slice (some a) n k → B ≤ a.block) :
    ∃ vs, (∀ W, (Instr.slice t v (some (.int .i64 (A : Int))) none none).run Try.prog W = .ok vs W) ∧ ReadRow w vs c (rows.drop A) ∧ ∀ a n k, vs = .slice (some a) n k → B ≤ a.block := by
  obtain ⟨vs, h1, h2⟩ := slice_lo ht he c hs h A hA
  refine ⟨vs, h1, h2, ?_⟩
  obtain ⟨a, cap, rfl, hle, hc⟩ := h
  have h3 := h1 w
  rw [run_slice_l w t a rows.length cap ht .i64 (A : Int) (by omega) (by omega), he, hs] at h3
  simp [Result.andThen] at h3
  rw [← h3]
  intro x n k e
  unfold sliced at e
  cases a with
  | none => simp at e
  | some b =>
    have hb := hB b _ _ rfl
    simp only [Value.slice.injEq] at e
    have e1 := e.1
    split at e1
    · simp only [Option.some.injEq] at e1
      rw [← e1]; exact hb
    · simp only [Option.map_some, Option.some.injEq] at e1
      rw [← e1]
      have : (b.add (A * c)).block = b.block := by simp [Addr.add]; split <;> rfl
      rw [this]; exact hb
/-- What the document's Put tells, and the items that come of it. -/
def rputE (room : Int) (l : List It) (now : Int) (x : St) (rank : Int) : Int := if room = 0 then 1 else Sto.putE ⟨room, l, 0⟩ now x rank
def rputL (room : Int) (l : List It) (now : Int) (x : St) (rank : Int) : List It := if rputE room l now x rank = 0 then Sto.cut (Sto.without l x.key ++ [⟨x, Ag.till now x.ttl, rank⟩]) room else l
def RPutEnd (w : World) (room ch now : Int) (v : Value) (zs : List (It × Value)) (x : St) (vd : Value) (rank : Int) (e : Ending) (w' : World) : Prop :=
  ∃ v' zs', e = .returned (.tuple #[.agg #[.int .i64 room, v', .int .i64 (if rputE room (itemsZ zs) now x rank = 0 then ch + 1 else ch)], .int .i64 (rputE room (itemsZ zs) now x rank)]) ∧ ReadRow w' v' 7 (zs'.map itZ) ∧ itemsZ zs' = rputL room (itemsZ zs) now x rank ∧ (∀ z ∈ zs', z ∈ zs ∨ z = (⟨x, Ag.till now x.ttl, rank⟩, vd)) ∧ NewOr w.heap.size v v' ∧ Keeps w w'
theorem cut_eq {zs : List (It × Value)} {room : Int} (h1 : 1 ≤ room) (h2 : (zs.length : Int) ≤ room + 1) : Sto.cut (itemsZ zs) room = itemsZ (if room < (zs.length : Int) then zs.drop 1 else zs) := by
  have hl : (itemsZ zs).length = zs.length := by unfold itemsZ; simp
  unfold Sto.cut
  rw [hl]
  have hv := Lr.cutAt_val zs.length room
  split
  · have : Lr.cutAt zs.length room = 1 := by omega
    rw [this]
    unfold itemsZ
    rw [List.map_drop]
  · have : Lr.cutAt zs.length room = 0 := by omega
    rw [this]
    rfl

set_option maxHeartbeats 32000000 in
set_option maxRecDepth 100000 in
theorem rPut_any (room ch now : Int) (v : Value) (zs : List (It × Value)) (vd : Value) (x : St) (rank : Int) (w : World) (hv : ReadRow w v 7 (zs.map itZ)) (hz : ∀ z ∈ zs, ∃ a n c, z.2 = .slice a n c) (hl : zs.length ≤ 1000000) (hnd : (Sto.keysL (itemsZ zs)).Nodup) (hch : 0 ≤ ch ∧ ch ≤ 1099511627776) (hroom : room = 0 ∨ (1 ≤ room ∧ room ≤ 1000 ∧ (zs.length : Int) ≤ room))
    (hx : ReadS w vd x.ds) (hf : StFine x) (hin : StIn x) :
    Calls Try.prog 14 #[.agg #[.int .i64 room, v, .int .i64 ch], .int .i64 now, .agg #[.string x.key.n, .int .i64 x.key.t, .int .i64 x.key.c, vd, .int .i64 x.ttl], .int .i64 rank] w fun e w' => RPutEnd w room ch now v zs x vd rank e w' := by
  have HPL := hide (fun W (k : Keeps w W) => Place14_any room ch v zs x.key W (hv.keeps k) hl)
  have HWO := hide (fun W (k : Keeps w W) at_ a hat => without14_any v zs at_ a W (hv.keeps k) hz hl hat)
  have HCK := hide (fun W (k : Keeps w W) => refGCheck_any (.agg #[.string x.key.n, .int .i64 x.key.t, .int .i64 x.key.c, vd, .int .i64 x.ttl]) x W ⟨vd, rfl, hx.keeps k⟩ hf)
  have RD := hide hv
  have HZ := hide hz
  obtain ⟨va, vc, hvd⟩ := hv.len
  rw [List.length_map] at hvd
  subst hvd
  obtain ⟨da, dc, hdd⟩ := hx.len
  generalize x.ds.length = dl at hdd
  subst hdd
  have HE0 : Hid (∀ c, rputE room (itemsZ zs) now x rank = c → c ≠ 0 → ∀ W, Keeps w W → RPutEnd w room ch now (.slice va zs.length vc) zs x (.slice da dl dc) rank (.returned (.tuple #[.agg #[.int .i64 room, .slice va zs.length vc, .int .i64 ch], .int .i64 c])) W) := fun c hc h0 W k => by
    refine ⟨.slice va zs.length vc, zs, ?_, RD.out.keeps k, ?_, fun z h => .inl h, .inl rfl, k⟩
    · rw [hc, if_neg h0]
    · unfold rputL; rw [hc, if_neg h0]
  have HE1 : Hid (rputE room (itemsZ zs) now x rank = 0 → ∀ v' zs' W, ReadRow W v' 7 (zs'.map itZ) → itemsZ zs' = Sto.cut (Sto.without (itemsZ zs) x.key ++ [⟨x, Ag.till now x.ttl, rank⟩]) room → (∀ z ∈ zs', z ∈ zs ∨ z = (⟨x, Ag.till now x.ttl, rank⟩, Value.slice da dl dc)) → (∀ a n c, v' = .slice (some a) n c → w.heap.size ≤ a.block) → Keeps w W → RPutEnd w room ch now (.slice va zs.length vc) zs x (.slice da dl dc) rank (.returned (.tuple #[.agg #[.int .i64 room, v', .int .i64 (ch + 1)], .int .i64 0])) W) := fun hc v' zs' W h1 h2 h3 h4 h5 => by
    refine ⟨v', zs', ?_, h1, ?_, h3, .inr h4, h5⟩
    · rw [hc, if_pos rfl]
    · unfold rputL; rw [hc, if_pos rfl]; exact h2
  have HR : Hid (rputE room (itemsZ zs) now x rank = if room = 0 then 1 else if (Ag.isT now && stOk x && Rk.isR rank) = true then (if Ag.live now (Ag.till now x.ttl) = true then (match Sto.find (itemsZ zs) x.key with | some i => if Rk.over i.rank (Ag.live now i.u) rank = true then 0 else 10 | none => 0) else 14) else 1) := rfl
  have HND := hide hnd
  have HFP := hide (fun a h hk hn => find_placed (zs := zs) (q := x.key) (a := a) h hk hn)
  have HFU := hide (fun hn => find_unplaced (zs := zs) (q := x.key) hn)
  have HWP := hide (fun a h hk => without_placed (zs := zs) (q := x.key) (a := a) hnd h hk)
  have HWU := hide (fun hn => without_unplaced (zs := zs) (q := x.key) hn)
  generalize rputE room (itemsZ zs) now x rank = RE at *
  clear hv hz hnd hx hf
  have hinu := hide hin.2
  clear hin
  have A := hide (((Blk.made w #[.int .i64 room, .slice va zs.length vc, .int .i64 ch] 29).alloc (.cells #[.string x.key.n, .int .i64 x.key.t, .int .i64 x.key.c, .slice da dl dc, .int .i64 x.ttl] 35)).alloc (.cells #[.int .i64 0, .slice none 0 0, .int .i64 0] 29))
  have B := (Blk.made (w.alloc (.cells #[.int .i64 room, .slice va zs.length vc, .int .i64 ch] 29)) #[.string x.key.n, .int .i64 x.key.t, .int .i64 x.key.c, .slice da dl dc, .int .i64 x.ttl] 35).alloc (.cells #[.int .i64 0, .slice none 0 0, .int .i64 0] 29)
  have R := Blk.made ((w.alloc (.cells #[.int .i64 room, .slice va zs.length vc, .int .i64 ch] 29)).alloc (.cells #[.string x.key.n, .int .i64 x.key.t, .int .i64 x.key.c, .slice da dl dc, .int .i64 x.ttl] 35)) #[.int .i64 0, .slice none 0 0, .int .i64 0] 29
  rw [size_allocG] at B
  rw [size_allocG, size_allocG] at R
  replace B := hide B
  replace R := hide R
  have K := hide ((((Keeps.refl w).alloc (.cells #[.int .i64 room, .slice va zs.length vc, .int .i64 ch] 29)).alloc (.cells #[.string x.key.n, .int .i64 x.key.t, .int .i64 x.key.c, .slice da dl dc, .int .i64 x.ttl] 35)).alloc (.cells #[.int .i64 0, .slice none 0 0, .int .i64 0] 29))
  go_enter Try.func14, Try.ntmps14
  go_upto_region 1 with fail
  generalize ((w.alloc (.cells #[.int .i64 room, .slice va zs.length vc, .int .i64 ch] 29)).alloc (.cells #[.string x.key.n, .int .i64 x.key.t, .int .i64 x.key.c, .slice da dl dc, .int .i64 x.ttl] 35)).alloc (.cells #[.int .i64 0, .slice none 0 0, .int .i64 0] 29) = W at *
  have hle : Hid (w.heap.size ≤ w.heap.size + 1 + 1) := by rw [Hid]; omega
  have hne : Hid (w.heap.size ≠ w.heap.size + 1 + 1 ∧ w.heap.size + 1 ≠ w.heap.size + 1 + 1 ∧ w.heap.size ≠ w.heap.size + 1) := by rw [Hid]; omega
  generalize w.heap.size + 1 + 1 = H at *
  generalize w.heap.size + 1 = G at *
  generalize hF : w.heap.size = F at A hne ⊢
  replace hF := hide hF
  obtain ⟨a0, a1, a2⟩ := A.out.three.1
  obtain ⟨b0, b1, b2, b3, b4, _⟩ := B.out.five_cells
  by_cases h0 : room = 0
  · have hb : (room == 0) = true := by rw [h0]; rfl
    clear a0 a1 a2 b0 b1 b2 b3 b4
    obtain ⟨a0, a1, a2⟩ := A.out.three.1
    have hcc := HE0.out 1 (by rw [HR.out, if_pos h0]) (by decide)
    replace h0 := hide h0
    clear HR HE1
    go_upto_region 2 with fail
    have hE := hide (hcc)
    obtain ⟨a0, a1, a2⟩ := A.out.three.1
    obtain ⟨⟨r0, r1, r2⟩, ⟨f0, f1, f2⟩, _⟩ := R.out.three
    have Y := hide (set3_blk R.out (.int .i64 room) (.slice va zs.length vc) (.int .i64 ch))
    have K9 := hide (set3_keeps K.out hle.out (.int .i64 room) (.slice va zs.length vc) (.int .i64 ch))
    unfold set3 at Y K9
    clear R K
    go_wp2_with fail
    generalize ((W.setCell ⟨H, 0, none⟩ (.int .i64 room)).setCell ⟨H, 1, none⟩ (.slice va zs.length vc)).setCell ⟨H, 2, none⟩ (.int .i64 ch) = W9 at *
    obtain ⟨s0, s1, s2⟩ := Y.out.three.1
    exact bodyPost_ret (v := .tuple #[.agg #[.int .i64 room, .slice va zs.length vc, .int .i64 ch], .int .i64 1]) (by simp [results, Try.results14, go_sem, s0, s1, s2]) rfl (hE.out _ K9.out)
  have hb : (room == 0) = false := by rw [beq_eq_false_iff_ne]; exact h0
  replace HR := hide (by have h := HR.out; rw [if_neg h0] at h; exact h)
  have hroom2 : Hid (1 ≤ room ∧ (zs.length : Int) ≤ room) := by
    rcases hroom with h | h
    · exact absurd h h0
    · exact ⟨h.1, h.2.2⟩
  replace h0 := hide h0
  clear hroom
  go_wp2_with fail
  refine (refTime_any now _).mono ?_
  rintro e w1 ⟨rfl, rfl⟩
  cases hT : Ag.isT now
  · have hcc := HE0.out 1 (by rw [HR.out, hT]; rfl) (by decide)
    clear HR HE1 hT
    go_upto_region 2 with fail
    have hE := hide (hcc)
    obtain ⟨a0, a1, a2⟩ := A.out.three.1
    obtain ⟨⟨r0, r1, r2⟩, ⟨f0, f1, f2⟩, _⟩ := R.out.three
    have Y := hide (set3_blk R.out (.int .i64 room) (.slice va zs.length vc) (.int .i64 ch))
    have K9 := hide (set3_keeps K.out hle.out (.int .i64 room) (.slice va zs.length vc) (.int .i64 ch))
    unfold set3 at Y K9
    clear R K
    go_wp2_with fail
    generalize ((w1.setCell ⟨H, 0, none⟩ (.int .i64 room)).setCell ⟨H, 1, none⟩ (.slice va zs.length vc)).setCell ⟨H, 2, none⟩ (.int .i64 ch) = W9 at *
    obtain ⟨s0, s1, s2⟩ := Y.out.three.1
    exact bodyPost_ret (v := .tuple #[.agg #[.int .i64 room, .slice va zs.length vc, .int .i64 ch], .int .i64 1]) (by simp [results, Try.results14, go_sem, s0, s1, s2]) rfl (hE.out _ K9.out)
  go_wp2_with fail
  refine (HCK.out _ K.out).mono ?_
  rintro e w2 ⟨rfl, k1⟩
  replace A := hide (A.out.keeps k1)
  replace B := hide (B.out.keeps k1)
  replace R := hide (R.out.keeps k1)
  replace K := hide (K.out.trans k1)
  clear k1 a0 a1 a2 b0 b1 b2 b3 b4 HCK
  cases hC : stOk x
  · have hcc := HE0.out 1 (by rw [HR.out, hC]; simp) (by decide)
    clear HR HE1 hC
    go_upto_region 2 with fail
    have hE := hide (hcc)
    obtain ⟨a0, a1, a2⟩ := A.out.three.1
    obtain ⟨⟨r0, r1, r2⟩, ⟨f0, f1, f2⟩, _⟩ := R.out.three
    have Y := hide (set3_blk R.out (.int .i64 room) (.slice va zs.length vc) (.int .i64 ch))
    have K9 := hide (set3_keeps K.out hle.out (.int .i64 room) (.slice va zs.length vc) (.int .i64 ch))
    unfold set3 at Y K9
    clear R K
    go_wp2_with fail
    generalize ((w2.setCell ⟨H, 0, none⟩ (.int .i64 room)).setCell ⟨H, 1, none⟩ (.slice va zs.length vc)).setCell ⟨H, 2, none⟩ (.int .i64 ch) = W9 at *
    obtain ⟨s0, s1, s2⟩ := Y.out.three.1
    exact bodyPost_ret (v := .tuple #[.agg #[.int .i64 room, .slice va zs.length vc, .int .i64 ch], .int .i64 1]) (by simp [results, Try.results14, go_sem, s0, s1, s2]) rfl (hE.out _ K9.out)
  by_cases r1 : rank < 1
  · have hcc := HE0.out 1 (by rw [HR.out, show Rk.isR rank = false by unfold Rk.isR; rw [decide_eq_false_iff_not]; omega]; simp) (by decide)
    clear HR HE1
    go_upto_region 2 with fail
    have hE := hide (hcc)
    obtain ⟨a0, a1, a2⟩ := A.out.three.1
    obtain ⟨⟨r0, r1, r2⟩, ⟨f0, f1, f2⟩, _⟩ := R.out.three
    have Y := hide (set3_blk R.out (.int .i64 room) (.slice va zs.length vc) (.int .i64 ch))
    have K9 := hide (set3_keeps K.out hle.out (.int .i64 room) (.slice va zs.length vc) (.int .i64 ch))
    unfold set3 at Y K9
    clear R K
    go_wp2_with fail
    generalize ((w2.setCell ⟨H, 0, none⟩ (.int .i64 room)).setCell ⟨H, 1, none⟩ (.slice va zs.length vc)).setCell ⟨H, 2, none⟩ (.int .i64 ch) = W9 at *
    obtain ⟨s0, s1, s2⟩ := Y.out.three.1
    exact bodyPost_ret (v := .tuple #[.agg #[.int .i64 room, .slice va zs.length vc, .int .i64 ch], .int .i64 1]) (by simp [results, Try.results14, go_sem, s0, s1, s2]) rfl (hE.out _ K9.out)
  by_cases r2 : 5 < rank
  · have hcc := HE0.out 1 (by rw [HR.out, show Rk.isR rank = false by unfold Rk.isR; rw [decide_eq_false_iff_not]; omega]; simp) (by decide)
    clear HR HE1
    go_upto_region 2 with fail
    have hE := hide (hcc)
    obtain ⟨a0, a1, a2⟩ := A.out.three.1
    obtain ⟨⟨r0, r1, r2⟩, ⟨f0, f1, f2⟩, _⟩ := R.out.three
    have Y := hide (set3_blk R.out (.int .i64 room) (.slice va zs.length vc) (.int .i64 ch))
    have K9 := hide (set3_keeps K.out hle.out (.int .i64 room) (.slice va zs.length vc) (.int .i64 ch))
    unfold set3 at Y K9
    clear R K
    go_wp2_with fail
    generalize ((w2.setCell ⟨H, 0, none⟩ (.int .i64 room)).setCell ⟨H, 1, none⟩ (.slice va zs.length vc)).setCell ⟨H, 2, none⟩ (.int .i64 ch) = W9 at *
    obtain ⟨s0, s1, s2⟩ := Y.out.three.1
    exact bodyPost_ret (v := .tuple #[.agg #[.int .i64 room, .slice va zs.length vc, .int .i64 ch], .int .i64 1]) (by simp [results, Try.results14, go_sem, s0, s1, s2]) rfl (hE.out _ K9.out)
  replace HR := hide (by have h := HR.out; rw [hT, hC, show Rk.isR rank = true by unfold Rk.isR; rw [decide_eq_true_eq]; omega] at h; simp only [Bool.and_self, if_true] at h; exact h)
  obtain ⟨b0, b1, b2, b3, b4, _⟩ := B.out.five_cells
  go_upto_region 3 with fail
  go_wp2_with fail
  refine (refUntil_any now x.ttl _ hinu.out).mono ?_
  rintro e w3 ⟨rfl, rfl⟩
  clear b0 b1 b2 b3 b4 r1 r2 hT hC
  generalize hTL : Ag.till now x.ttl = TL at *
  replace hTL := hide hTL
  go_wp2_with fail
  refine (refAgeLive_any now TL _).mono ?_
  rintro e w4 ⟨rfl, rfl⟩
  cases hV : Ag.live now TL
  · have hcc := HE0.out 14 (by rw [HR.out, hV]; rfl) (by decide)
    clear HR HE1 hV
    go_upto_region 5 with fail
    have hE := hide (hcc)
    obtain ⟨a0, a1, a2⟩ := A.out.three.1
    obtain ⟨⟨r0, r1, r2⟩, ⟨f0, f1, f2⟩, _⟩ := R.out.three
    have Y := hide (set3_blk R.out (.int .i64 room) (.slice va zs.length vc) (.int .i64 ch))
    have K9 := hide (set3_keeps K.out hle.out (.int .i64 room) (.slice va zs.length vc) (.int .i64 ch))
    unfold set3 at Y K9
    clear R K
    go_wp2_with fail
    generalize ((w4.setCell ⟨H, 0, none⟩ (.int .i64 room)).setCell ⟨H, 1, none⟩ (.slice va zs.length vc)).setCell ⟨H, 2, none⟩ (.int .i64 ch) = W9 at *
    obtain ⟨s0, s1, s2⟩ := Y.out.three.1
    exact bodyPost_ret (v := .tuple #[.agg #[.int .i64 room, .slice va zs.length vc, .int .i64 ch], .int .i64 14]) (by simp [results, Try.results14, go_sem, s0, s1, s2]) rfl (hE.out _ K9.out)
  replace HR := hide (by have h := HR.out; rw [hV] at h; simp only [if_true] at h; exact h)
  clear hV
  obtain ⟨a0, a1, a2⟩ := A.out.three.1
  obtain ⟨b0, b1, b2, b3, b4, _⟩ := B.out.five_cells
  go_upto_region 6 with fail
  go_wp2_with fail
  refine (HPL.out _ K.out).mono ?_
  intro e w5 hE
  obtain ⟨r, a, rfl, k1, hr⟩ := hE
  replace A := hide (A.out.keeps k1)
  replace B := hide (B.out.keeps k1)
  replace R := hide (R.out.keeps k1)
  replace K := hide (K.out.trans k1)
  clear k1 a0 a1 a2 b0 b1 b2 b3 b4 HPL
  obtain ⟨a0, a1, a2⟩ := A.out.three.1
  rcases hr with ⟨rfl, hlt, hk, hn⟩ | ⟨rfl, rfl, hn⟩
  · have hfd := HFP.out a hlt hk hn
    replace HR := hide (by have h := HR.out; rw [hfd] at h; exact h)
    have hwi := hide (HWP.out a hlt hk)
    have hv2 := RD.out.keeps K.out.drew
    have hIX : ∃ b off, va = some ⟨b, off, none⟩ := by
      obtain ⟨b, off, e, -, -⟩ := RD.out.parts (by rw [List.length_map]; omega)
      exact ⟨b, off, e⟩
    obtain ⟨b, off, rfl⟩ := hIX
    obtain ⟨-, -, -, -, -, c5, c6⟩ := row7z hv2 hlt
    have HCR := hide (fun W (k : Keeps w5.drew W) => row7z (hv2.keeps k) hlt)
    have i2 : (a : Int) < (zs.length : Int) := by omega
    have i0 : (0 : Int) ≤ (a : Int) := by omega
    have ig : decide ((a : Int) ≥ 0) = true := decide_eq_true i0
    clear hn hk hv2 hfd HFP HFU HWP HWU
    generalize hoo : off + a * 7 = o at *
    have HR2 : Hid (RE = if Rk.over zs[a].1.rank (Ag.live now zs[a].1.u) rank = true then 0 else 10) := HR.out
    clear HR
    generalize zs[a].1.rank = zr at *
    generalize zs[a].1.u = zu at *
    replace hlt := hide hlt
    have HL := hide (fun W => refAgeLive_any now zu W)
    have HO := hide (fun W => refOver_any zr rank (Ag.live now zu) W)
    have T : w5.drew.cell? ⟨F, 1, none⟩ = some (.slice (some ⟨b, off, none⟩) zs.length vc) ∧ w5.drew.cell? ⟨b, o + 5, none⟩ = some (.int .i64 zu) ∧ w5.drew.cell? ⟨b, o + 6, none⟩ = some (.int .i64 zr) := ⟨a1, c5, c6⟩
    clear HCR c5 c6
    generalize Ag.live now zu = LV at *
    generalize Rk.over zr LV rank = OV at *
    go_upto_region 7 with fail
    go_region_held3 (fun w' => w'.cell? ⟨F, 1, none⟩ = some (.slice (some ⟨b, off, none⟩) zs.length vc) ∧ w'.cell? ⟨b, o + 5, none⟩ = some (.int .i64 zu) ∧ w'.cell? ⟨b, o + 6, none⟩ = some (.int .i64 zr)) (exact T) ((first | (go_at_call 64; refine (HL.out _).mono ?_; rintro e w6 ⟨rfl, rfl⟩) | (go_at_call 66; refine (HO.out _).mono ?_; rintro e w6 ⟨rfl, rfl⟩)))
    replace A := hide A.out.drew
    replace B := hide B.out.drew
    replace R := hide R.out.drew
    replace K := hide K.out.drew
    clear T HL HO a0 a1 a2
    generalize w5.drew = WD at *
    cases OV
    · have hcc := HE0.out 10 (by rw [HR2.out]; rfl) (by decide)
      clear HR2 HE1 HWO hwi
      go_upto_region 8 with fail
      have hE := hide (hcc)
      obtain ⟨a0, a1, a2⟩ := A.out.three.1
      obtain ⟨⟨r0, r1, r2⟩, ⟨f0, f1, f2⟩, _⟩ := R.out.three
      have Y := hide (set3_blk R.out (.int .i64 room) (.slice (some ⟨b, off, none⟩) zs.length vc) (.int .i64 ch))
      have K9 := hide (set3_keeps K.out hle.out (.int .i64 room) (.slice (some ⟨b, off, none⟩) zs.length vc) (.int .i64 ch))
      unfold set3 at Y K9
      clear R K
      go_wp2_with fail
      generalize ((WD.setCell ⟨H, 0, none⟩ (.int .i64 room)).setCell ⟨H, 1, none⟩ (.slice (some ⟨b, off, none⟩) zs.length vc)).setCell ⟨H, 2, none⟩ (.int .i64 ch) = W9 at *
      obtain ⟨s0, s1, s2⟩ := Y.out.three.1
      exact bodyPost_ret (v := .tuple #[.agg #[.int .i64 room, .slice (some ⟨b, off, none⟩) zs.length vc, .int .i64 ch], .int .i64 10]) (by simp [results, Try.results14, go_sem, s0, s1, s2]) rfl (hE.out _ K9.out)
    have hRE := hide (show RE = 0 by rw [HR2.out]; rfl)
    clear HR2
    obtain ⟨a0, a1, a2⟩ := A.out.three.1
    go_upto_region 9 with fail
    go_wp2_with fail
    refine (HWO.out _ K.out (a : Int) a (.inl ⟨rfl, hlt.out⟩)).mono ?_
    intro e w8 hE
    obtain ⟨vw, rfl, ho, k1⟩ := hE
    obtain ⟨wa, wc, rfl⟩ := ho.form
    rw [List.length_map] at ho ⊢
    have OW := hide ho
    have hlt5 : Hid (F < WD.heap.size ∧ H < WD.heap.size) := ⟨A.out.lt, R.out.lt⟩
    have hB8 : Hid (WD.heap.size ≤ w8.heap.size) := k1.size
    have hln : Hid ((zs.eraseIdx a).length + 1 ≤ zs.length + 1 ∧ (zs.eraseIdx a).length + 1 ≤ 1000001) := by have h1 := List.length_eraseIdx_le zs a; rw [Hid]; omega
    have hsl := hide (fun z (h : z ∈ zs.eraseIdx a) => List.mem_of_mem_eraseIdx h)
    replace A := hide (A.out.keeps k1)
    replace B := hide (B.out.keeps k1)
    replace R := hide (R.out.keeps k1)
    replace K := hide (K.out.trans k1)
    clear HWO ho k1 a0 a1 a2
    generalize zs.eraseIdx a = ZE at *
    obtain ⟨a0, a1, a2⟩ := A.out.three.1
    obtain ⟨b0, b1, b2, b3, b4, _⟩ := B.out.five_cells
    generalize WD.heap.size = BW at *
    clear HE0
    generalize hLL : ZE.map itZ = LL at *
    have hTLr := hTL
    have hownA := hide (OW.out.alloc (.cells #[.string x.key.n, .int .i64 x.key.t, .int .i64 x.key.c, .slice da dl dc, .int .i64 x.ttl, .int .i64 TL, .int .i64 rank] 43))
    have KA := hide (K.out.alloc (.cells #[.string x.key.n, .int .i64 x.key.t, .int .i64 x.key.c, .slice da dl dc, .int .i64 x.ttl, .int .i64 TL, .int .i64 rank] 43))
    have A1 := hide (A.out.alloc (.cells #[.string x.key.n, .int .i64 x.key.t, .int .i64 x.key.c, .slice da dl dc, .int .i64 x.ttl, .int .i64 TL, .int .i64 rank] 43))
    have R1 := hide (R.out.alloc (.cells #[.string x.key.n, .int .i64 x.key.t, .int .i64 x.key.c, .slice da dl dc, .int .i64 x.ttl, .int .i64 TL, .int .i64 rank] 43))
    go_upto_region 10 with fail
    go_wp2_with (at_builtin; refine wpList_appR 43 27 7 80 (itV noIt (.slice none 0 0)) _ Try.underlying27 info14 rfl (by decide) rfl _ _ rfl BW _ _ rfl hownA.out _ _ (itZ ((⟨x, TL, rank⟩ : It), .slice da dl dc)) rfl rfl ?c0 ?c1 ?c2 ?c3 ?c4 ?_)
    case c0 => exact itZ_ones _ ⟨da, dl, dc, rfl⟩
    case c1 =>
      intro jj u hu
      exact cells_box w8 #[.string x.key.n, .int .i64 x.key.t, .int .i64 x.key.c, .slice da dl dc, .int .i64 x.ttl, .int .i64 TL, .int .i64 rank] 43 jj u hu
    case c2 => have := hln.out; rw [← hLL, List.length_map]; unfold maxLen; omega
    case c3 => have := hln.out; rw [← hLL, List.length_map]; omega
    case c4 => exact Nat.le_trans hB8.out ((Keeps.refl w8).alloc (.cells #[.string x.key.n, .int .i64 x.key.t, .int .i64 x.key.c, .slice da dl dc, .int .i64 x.ttl, .int .i64 TL, .int .i64 rank] 43)).size
    intro v7 w7 hown7 hb7 _
    have hlow : w.heap.size ≤ BW := by
      have h1 := hlt5.out
      have h2 := hF.out
      omega
    have K7 := hide (show Keeps w w7 from Below.trans KA.out ⟨hb7.os, hb7.tape, hb7.output, hb7.size, fun i hi => hb7.block i (Nat.lt_of_lt_of_le hi hlow)⟩)
    have A7 := hide (show Blk w7 F _ _ from (hb7.block F hlt5.out.1).trans A1.out)
    have R7 := hide (show Blk w7 H _ _ from (hb7.block H hlt5.out.2).trans R1.out)
    have O7 := hide hown7
    obtain ⟨ua, uc, rfl⟩ := hown7.form
    have hABV := hide (show ∀ a n k, Value.slice ua (LL ++ [itZ ((⟨x, TL, rank⟩ : It), Value.slice da dl dc)]).length uc = .slice (some a) n k → BW ≤ a.block from hown7.above)
    have hRD7 := hide (show ReadRow w7 (.slice ua (LL ++ [itZ ((⟨x, TL, rank⟩ : It), Value.slice da dl dc)]).length uc) 7 ((ZE ++ [((⟨x, TL, rank⟩ : It), Value.slice da dl dc)]).map itZ) by rw [List.map_append, hLL]; exact hown7.read)
    have hlen7 : Hid ((LL ++ [itZ ((⟨x, TL, rank⟩ : It), Value.slice da dl dc)]).length = ZE.length + 1) := by rw [Hid, ← hLL, List.length_append, List.length_map]; rfl
    clear hownA KA A1 R1 A B R K hown7 hb7 OW O7 a0 a1 a2 b0 b1 b2 b3 b4
    generalize (LL ++ [itZ ((⟨x, TL, rank⟩ : It), .slice da dl dc)]).length = ul at *
    have hZL : ul = (ZE ++ [((⟨x, TL, rank⟩ : It), Value.slice da dl dc)]).length := by rw [hlen7.out, List.length_append]; rfl
    have hIZ : Hid (itemsZ (ZE ++ [((⟨x, TL, rank⟩ : It), Value.slice da dl dc)]) = Sto.without (itemsZ zs) x.key ++ [⟨x, TL, rank⟩]) := by rw [Hid, ← hwi.out]; unfold itemsZ; rw [List.map_append]; rfl
    have hMZ : Hid (∀ z ∈ ZE ++ [((⟨x, TL, rank⟩ : It), Value.slice da dl dc)], z ∈ zs ∨ z = ((⟨x, TL, rank⟩ : It), Value.slice da dl dc)) := fun z hz => by
      rw [List.mem_append, List.mem_singleton] at hz
      rcases hz with hz | hz
      · exact .inl (hsl.out z hz)
      · exact .inr hz
    have hCUT := hide (cut_eq (zs := ZE ++ [((⟨x, TL, rank⟩ : It), Value.slice da dl dc)]) hroom2.out.1 (by rw [← hZL, hlen7.out]; have := hroom2.out.2; have := hln.out; omega))
    rw [hIZ.out, ← hZL] at hCUT
    generalize ZE ++ [((⟨x, TL, rank⟩ : It), Value.slice da dl dc)] = ZN at *
    replace hZL := hide hZL
    obtain ⟨a0, a1, a2⟩ := A7.out.three.1
    have hw1 : IntKind.i64.wrap (ch + 1) = ch + 1 := by rw [IntKind.wrap_i64]; omega
    by_cases hgt : room < (ul : Int)
    · have hdrop := slice_lo_blk (t := 27) (e := 43) (by kernel_rfl) (by kernel_rfl) 7 Try.sizeOf43 hRD7.out 1 (by rw [List.length_map, ← hZL.out, hlen7.out]; omega) hABV.out
      obtain ⟨vs, r1, rr1, rb1⟩ := hdrop
      have r1' : ∀ W, (Instr.slice 27 (.slice ua ul uc) (some (.int .i64 1)) none none).run Try.prog W = .ok vs W := r1
      rw [← List.map_drop] at rr1
      have hC2 : Hid (itemsZ (ZN.drop 1) = Sto.cut (Sto.without (itemsZ zs) x.key ++ [⟨x, TL, rank⟩]) room) := by have h := hCUT.out; rw [if_pos hgt] at h; exact h.symm
      have hM2 : Hid (∀ z ∈ ZN.drop 1, z ∈ zs ∨ z = ((⟨x, TL, rank⟩ : It), Value.slice da dl dc)) := fun z hz => hMZ.out z (List.mem_of_mem_drop hz)
      obtain ⟨qa, qc, hq⟩ := rr1.len
      generalize ((ZN.drop 1).map itZ).length = ql at hq
      subst hq
      have hRF := hide rr1
      have hBF := hide rb1
      clear r1 rr1 rb1 hCUT hMZ hRD7 hABV
      go_upto_region 13 with fail
      obtain ⟨⟨-, -, -⟩, ⟨f0, f1, f2⟩, _⟩ := A7.out.three
      go_upto_region 15 with fail
      have A8 := hide (show Blk ((w7.setCell ⟨F, 1, none⟩ (.slice qa ql qc)).setCell ⟨F, 2, none⟩ (.int .i64 (ch + 1))) F #[.int .i64 room, (.slice qa ql qc), .int .i64 (ch + 1)] 29 by have := (A7.out.set 1 (.slice qa ql qc)).set 2 (.int .i64 (ch + 1)); simpa using this)
      have R8 := hide ((R7.out.other (a := ⟨F, 1, none⟩) hne.out.1 (.slice qa ql qc)).other (a := ⟨F, 2, none⟩) hne.out.1 (.int .i64 (ch + 1)))
      have K8 := hide ((K7.out.setC ⟨F, 1, none⟩ (Nat.le_of_eq hF.out) (.slice qa ql qc)).setC ⟨F, 2, none⟩ (Nat.le_of_eq hF.out) (.int .i64 (ch + 1)))
      have RD8 := hide ((hRF.out.setOther (x := ⟨F, 1, none⟩) (fun a n k e => by have h1 := hBF.out a n k e; have h2 := hlt5.out.1; show a.block ≠ F; omega) (.slice qa ql qc)).setOther (x := ⟨F, 2, none⟩) (fun a n k e => by have h1 := hBF.out a n k e; have h2 := hlt5.out.1; show a.block ≠ F; omega) (.int .i64 (ch + 1)))
      generalize (w7.setCell ⟨F, 1, none⟩ (.slice qa ql qc)).setCell ⟨F, 2, none⟩ (.int .i64 (ch + 1)) = W8 at *
      clear a0 a1 a2 f0 f1 f2 A7 R7 K7
      obtain ⟨a0, a1, a2⟩ := A8.out.three.1
      obtain ⟨⟨r0, r1, r2⟩, ⟨g0, g1, g2⟩, _⟩ := R8.out.three
      have Y := hide (set3_blk R8.out (.int .i64 room) (.slice qa ql qc) (.int .i64 (ch + 1)))
      have K9 := hide (set3_keeps K8.out hle.out (.int .i64 room) (.slice qa ql qc) (.int .i64 (ch + 1)))
      have RD9 := hide (((RD8.out.setOther (x := ⟨H, 0, none⟩) (fun a n k e => by have h1 := hBF.out a n k e; have h2 := hlt5.out.2; show a.block ≠ H; omega) (.int .i64 room)).setOther (x := ⟨H, 1, none⟩) (fun a n k e => by have h1 := hBF.out a n k e; have h2 := hlt5.out.2; show a.block ≠ H; omega) (.slice qa ql qc)).setOther (x := ⟨H, 2, none⟩) (fun a n k e => by have h1 := hBF.out a n k e; have h2 := hlt5.out.2; show a.block ≠ H; omega) (.int .i64 (ch + 1)))
      unfold set3 at Y K9
      clear R8 K8
      go_wp2_with fail
      generalize ((W8.setCell ⟨H, 0, none⟩ (.int .i64 room)).setCell ⟨H, 1, none⟩ (.slice qa ql qc)).setCell ⟨H, 2, none⟩ (.int .i64 (ch + 1)) = W9 at *
      obtain ⟨s0, s1, s2⟩ := Y.out.three.1
      exact bodyPost_ret (v := .tuple #[.agg #[.int .i64 room, .slice qa ql qc, .int .i64 (ch + 1)], .int .i64 0]) (by simp [results, Try.results14, go_sem, s0, s1, s2]) rfl (HE1.out hRE.out _ _ _ RD9.out hC2.out hM2.out (fun a n k e => Nat.le_trans hlow (hBF.out a n k e)) K9.out)
    · have hC2 : Hid (itemsZ ZN = Sto.cut (Sto.without (itemsZ zs) x.key ++ [⟨x, TL, rank⟩]) room) := by have h := hCUT.out; rw [if_neg hgt] at h; exact h.symm
      clear hCUT
      go_upto_region 13 with fail
      obtain ⟨⟨-, -, -⟩, ⟨f0, f1, f2⟩, _⟩ := A7.out.three
      go_upto_region 15 with fail
      have A8 := hide (show Blk ((w7.setCell ⟨F, 1, none⟩ (.slice ua ul uc)).setCell ⟨F, 2, none⟩ (.int .i64 (ch + 1))) F #[.int .i64 room, (.slice ua ul uc), .int .i64 (ch + 1)] 29 by have := (A7.out.set 1 (.slice ua ul uc)).set 2 (.int .i64 (ch + 1)); simpa using this)
      have R8 := hide ((R7.out.other (a := ⟨F, 1, none⟩) hne.out.1 (.slice ua ul uc)).other (a := ⟨F, 2, none⟩) hne.out.1 (.int .i64 (ch + 1)))
      have K8 := hide ((K7.out.setC ⟨F, 1, none⟩ (Nat.le_of_eq hF.out) (.slice ua ul uc)).setC ⟨F, 2, none⟩ (Nat.le_of_eq hF.out) (.int .i64 (ch + 1)))
      have RD8 := hide ((hRD7.out.setOther (x := ⟨F, 1, none⟩) (fun a n k e => by have h1 := hABV.out a n k e; have h2 := hlt5.out.1; show a.block ≠ F; omega) (.slice ua ul uc)).setOther (x := ⟨F, 2, none⟩) (fun a n k e => by have h1 := hABV.out a n k e; have h2 := hlt5.out.1; show a.block ≠ F; omega) (.int .i64 (ch + 1)))
      generalize (w7.setCell ⟨F, 1, none⟩ (.slice ua ul uc)).setCell ⟨F, 2, none⟩ (.int .i64 (ch + 1)) = W8 at *
      clear a0 a1 a2 f0 f1 f2 A7 R7 K7
      obtain ⟨a0, a1, a2⟩ := A8.out.three.1
      obtain ⟨⟨r0, r1, r2⟩, ⟨g0, g1, g2⟩, _⟩ := R8.out.three
      have Y := hide (set3_blk R8.out (.int .i64 room) (.slice ua ul uc) (.int .i64 (ch + 1)))
      have K9 := hide (set3_keeps K8.out hle.out (.int .i64 room) (.slice ua ul uc) (.int .i64 (ch + 1)))
      have RD9 := hide (((RD8.out.setOther (x := ⟨H, 0, none⟩) (fun a n k e => by have h1 := hABV.out a n k e; have h2 := hlt5.out.2; show a.block ≠ H; omega) (.int .i64 room)).setOther (x := ⟨H, 1, none⟩) (fun a n k e => by have h1 := hABV.out a n k e; have h2 := hlt5.out.2; show a.block ≠ H; omega) (.slice ua ul uc)).setOther (x := ⟨H, 2, none⟩) (fun a n k e => by have h1 := hABV.out a n k e; have h2 := hlt5.out.2; show a.block ≠ H; omega) (.int .i64 (ch + 1)))
      unfold set3 at Y K9
      clear R8 K8
      go_wp2_with fail
      generalize ((W8.setCell ⟨H, 0, none⟩ (.int .i64 room)).setCell ⟨H, 1, none⟩ (.slice ua ul uc)).setCell ⟨H, 2, none⟩ (.int .i64 (ch + 1)) = W9 at *
      obtain ⟨s0, s1, s2⟩ := Y.out.three.1
      exact bodyPost_ret (v := .tuple #[.agg #[.int .i64 room, .slice ua ul uc, .int .i64 (ch + 1)], .int .i64 0]) (by simp [results, Try.results14, go_sem, s0, s1, s2]) rfl (HE1.out hRE.out _ _ _ RD9.out hC2.out hMZ.out (fun a n k e => Nat.le_trans hlow (hABV.out a n k e)) K9.out)
  · have hfd := HFU.out hn
    have hRE := hide (show RE = 0 by have h := HR.out; rw [hfd] at h; exact h)
    have hwi := hide (show itemsZ (zs.eraseIdx zs.length) = Sto.without (itemsZ zs) x.key by rw [List.eraseIdx_of_length_le (Nat.le_refl _)]; exact HWU.out hn)
    have hneg : ¬ (-1 : Int) ≥ 0 := by omega
    have hneg2 : decide ((-1 : Int) ≥ 0) = false := decide_eq_false hneg
    clear hn hfd HFP HFU HWP HWU HR HE0
    go_upto_region 7 with fail
    go_quiet (fail)
    have KD : ∀ n, Keeps w5 (w5.drewN n) := fun n => (Keeps.refl _).drewN n
    generalize hWD : w5.drewN _ = WD at *
    have KWD : Keeps w5 WD := hWD ▸ KD _
    clear hWD KD a0 a1 a2 hneg hneg2
    replace A := hide (A.out.keeps KWD)
    replace B := hide (B.out.keeps KWD)
    replace R := hide (R.out.keeps KWD)
    replace K := hide (K.out.trans KWD)
    clear KWD
    obtain ⟨a0, a1, a2⟩ := A.out.three.1
    go_upto_region 9 with fail
    go_wp2_with fail
    refine (HWO.out _ K.out (-1) zs.length (.inr ⟨rfl, rfl⟩)).mono ?_
    intro e w8 hE
    obtain ⟨vw, rfl, ho, k1⟩ := hE
    obtain ⟨wa, wc, rfl⟩ := ho.form
    rw [List.length_map] at ho ⊢
    have OW := hide ho
    have hlt5 : Hid (F < WD.heap.size ∧ H < WD.heap.size) := ⟨A.out.lt, R.out.lt⟩
    have hB8 : Hid (WD.heap.size ≤ w8.heap.size) := k1.size
    have hln : Hid ((zs.eraseIdx zs.length).length + 1 ≤ zs.length + 1 ∧ (zs.eraseIdx zs.length).length + 1 ≤ 1000001) := by have h1 := List.length_eraseIdx_le zs zs.length; rw [Hid]; omega
    have hsl := hide (fun z (h : z ∈ zs.eraseIdx zs.length) => List.mem_of_mem_eraseIdx h)
    replace A := hide (A.out.keeps k1)
    replace B := hide (B.out.keeps k1)
    replace R := hide (R.out.keeps k1)
    replace K := hide (K.out.trans k1)
    clear HWO ho k1 a0 a1 a2
    generalize zs.eraseIdx zs.length = ZE at *
    obtain ⟨a0, a1, a2⟩ := A.out.three.1
    obtain ⟨b0, b1, b2, b3, b4, _⟩ := B.out.five_cells
    generalize WD.heap.size = BW at *
    generalize hLL : ZE.map itZ = LL at *
    have hTLr := hTL
    have hownA := hide (OW.out.alloc (.cells #[.string x.key.n, .int .i64 x.key.t, .int .i64 x.key.c, .slice da dl dc, .int .i64 x.ttl, .int .i64 TL, .int .i64 rank] 43))
    have KA := hide (K.out.alloc (.cells #[.string x.key.n, .int .i64 x.key.t, .int .i64 x.key.c, .slice da dl dc, .int .i64 x.ttl, .int .i64 TL, .int .i64 rank] 43))
    have A1 := hide (A.out.alloc (.cells #[.string x.key.n, .int .i64 x.key.t, .int .i64 x.key.c, .slice da dl dc, .int .i64 x.ttl, .int .i64 TL, .int .i64 rank] 43))
    have R1 := hide (R.out.alloc (.cells #[.string x.key.n, .int .i64 x.key.t, .int .i64 x.key.c, .slice da dl dc, .int .i64 x.ttl, .int .i64 TL, .int .i64 rank] 43))
    go_upto_region 10 with fail
    go_wp2_with (at_builtin; refine wpList_appR 43 27 7 80 (itV noIt (.slice none 0 0)) _ Try.underlying27 info14 rfl (by decide) rfl _ _ rfl BW _ _ rfl hownA.out _ _ (itZ ((⟨x, TL, rank⟩ : It), .slice da dl dc)) rfl rfl ?c0 ?c1 ?c2 ?c3 ?c4 ?_)
    case c0 => exact itZ_ones _ ⟨da, dl, dc, rfl⟩
    case c1 =>
      intro jj u hu
      exact cells_box w8 #[.string x.key.n, .int .i64 x.key.t, .int .i64 x.key.c, .slice da dl dc, .int .i64 x.ttl, .int .i64 TL, .int .i64 rank] 43 jj u hu
    case c2 => have := hln.out; rw [← hLL, List.length_map]; unfold maxLen; omega
    case c3 => have := hln.out; rw [← hLL, List.length_map]; omega
    case c4 => exact Nat.le_trans hB8.out ((Keeps.refl w8).alloc (.cells #[.string x.key.n, .int .i64 x.key.t, .int .i64 x.key.c, .slice da dl dc, .int .i64 x.ttl, .int .i64 TL, .int .i64 rank] 43)).size
    intro v7 w7 hown7 hb7 _
    have hlow : w.heap.size ≤ BW := by
      have h1 := hlt5.out
      have h2 := hF.out
      omega
    have K7 := hide (show Keeps w w7 from Below.trans KA.out ⟨hb7.os, hb7.tape, hb7.output, hb7.size, fun i hi => hb7.block i (Nat.lt_of_lt_of_le hi hlow)⟩)
    have A7 := hide (show Blk w7 F _ _ from (hb7.block F hlt5.out.1).trans A1.out)
    have R7 := hide (show Blk w7 H _ _ from (hb7.block H hlt5.out.2).trans R1.out)
    have O7 := hide hown7
    obtain ⟨ua, uc, rfl⟩ := hown7.form
    have hABV := hide (show ∀ a n k, Value.slice ua (LL ++ [itZ ((⟨x, TL, rank⟩ : It), Value.slice da dl dc)]).length uc = .slice (some a) n k → BW ≤ a.block from hown7.above)
    have hRD7 := hide (show ReadRow w7 (.slice ua (LL ++ [itZ ((⟨x, TL, rank⟩ : It), Value.slice da dl dc)]).length uc) 7 ((ZE ++ [((⟨x, TL, rank⟩ : It), Value.slice da dl dc)]).map itZ) by rw [List.map_append, hLL]; exact hown7.read)
    have hlen7 : Hid ((LL ++ [itZ ((⟨x, TL, rank⟩ : It), Value.slice da dl dc)]).length = ZE.length + 1) := by rw [Hid, ← hLL, List.length_append, List.length_map]; rfl
    clear hownA KA A1 R1 A B R K hown7 hb7 OW O7 a0 a1 a2 b0 b1 b2 b3 b4
    generalize (LL ++ [itZ ((⟨x, TL, rank⟩ : It), .slice da dl dc)]).length = ul at *
    have hZL : ul = (ZE ++ [((⟨x, TL, rank⟩ : It), Value.slice da dl dc)]).length := by rw [hlen7.out, List.length_append]; rfl
    have hIZ : Hid (itemsZ (ZE ++ [((⟨x, TL, rank⟩ : It), Value.slice da dl dc)]) = Sto.without (itemsZ zs) x.key ++ [⟨x, TL, rank⟩]) := by rw [Hid, ← hwi.out]; unfold itemsZ; rw [List.map_append]; rfl
    have hMZ : Hid (∀ z ∈ ZE ++ [((⟨x, TL, rank⟩ : It), Value.slice da dl dc)], z ∈ zs ∨ z = ((⟨x, TL, rank⟩ : It), Value.slice da dl dc)) := fun z hz => by
      rw [List.mem_append, List.mem_singleton] at hz
      rcases hz with hz | hz
      · exact .inl (hsl.out z hz)
      · exact .inr hz
    have hCUT := hide (cut_eq (zs := ZE ++ [((⟨x, TL, rank⟩ : It), Value.slice da dl dc)]) hroom2.out.1 (by rw [← hZL, hlen7.out]; have := hroom2.out.2; have := hln.out; omega))
    rw [hIZ.out, ← hZL] at hCUT
    generalize ZE ++ [((⟨x, TL, rank⟩ : It), Value.slice da dl dc)] = ZN at *
    replace hZL := hide hZL
    obtain ⟨a0, a1, a2⟩ := A7.out.three.1
    have hw1 : IntKind.i64.wrap (ch + 1) = ch + 1 := by rw [IntKind.wrap_i64]; omega
    by_cases hgt : room < (ul : Int)
    · have hdrop := slice_lo_blk (t := 27) (e := 43) (by kernel_rfl) (by kernel_rfl) 7 Try.sizeOf43 hRD7.out 1 (by rw [List.length_map, ← hZL.out, hlen7.out]; omega) hABV.out
      obtain ⟨vs, r1, rr1, rb1⟩ := hdrop
      have r1' : ∀ W, (Instr.slice 27 (.slice ua ul uc) (some (.int .i64 1)) none none).run Try.prog W = .ok vs W := r1
      rw [← List.map_drop] at rr1
      have hC2 : Hid (itemsZ (ZN.drop 1) = Sto.cut (Sto.without (itemsZ zs) x.key ++ [⟨x, TL, rank⟩]) room) := by have h := hCUT.out; rw [if_pos hgt] at h; exact h.symm
      have hM2 : Hid (∀ z ∈ ZN.drop 1, z ∈ zs ∨ z = ((⟨x, TL, rank⟩ : It), Value.slice da dl dc)) := fun z hz => hMZ.out z (List.mem_of_mem_drop hz)
      obtain ⟨qa, qc, hq⟩ := rr1.len
      generalize ((ZN.drop 1).map itZ).length = ql at hq
      subst hq
      have hRF := hide rr1
      have hBF := hide rb1
      clear r1 rr1 rb1 hCUT hMZ hRD7 hABV
      go_upto_region 13 with fail
      obtain ⟨⟨-, -, -⟩, ⟨f0, f1, f2⟩, _⟩ := A7.out.three
      go_upto_region 15 with fail
      have A8 := hide (show Blk ((w7.setCell ⟨F, 1, none⟩ (.slice qa ql qc)).setCell ⟨F, 2, none⟩ (.int .i64 (ch + 1))) F #[.int .i64 room, (.slice qa ql qc), .int .i64 (ch + 1)] 29 by have := (A7.out.set 1 (.slice qa ql qc)).set 2 (.int .i64 (ch + 1)); simpa using this)
      have R8 := hide ((R7.out.other (a := ⟨F, 1, none⟩) hne.out.1 (.slice qa ql qc)).other (a := ⟨F, 2, none⟩) hne.out.1 (.int .i64 (ch + 1)))
      have K8 := hide ((K7.out.setC ⟨F, 1, none⟩ (Nat.le_of_eq hF.out) (.slice qa ql qc)).setC ⟨F, 2, none⟩ (Nat.le_of_eq hF.out) (.int .i64 (ch + 1)))
      have RD8 := hide ((hRF.out.setOther (x := ⟨F, 1, none⟩) (fun a n k e => by have h1 := hBF.out a n k e; have h2 := hlt5.out.1; show a.block ≠ F; omega) (.slice qa ql qc)).setOther (x := ⟨F, 2, none⟩) (fun a n k e => by have h1 := hBF.out a n k e; have h2 := hlt5.out.1; show a.block ≠ F; omega) (.int .i64 (ch + 1)))
      generalize (w7.setCell ⟨F, 1, none⟩ (.slice qa ql qc)).setCell ⟨F, 2, none⟩ (.int .i64 (ch + 1)) = W8 at *
      clear a0 a1 a2 f0 f1 f2 A7 R7 K7
      obtain ⟨a0, a1, a2⟩ := A8.out.three.1
      obtain ⟨⟨r0, r1, r2⟩, ⟨g0, g1, g2⟩, _⟩ := R8.out.three
      have Y := hide (set3_blk R8.out (.int .i64 room) (.slice qa ql qc) (.int .i64 (ch + 1)))
      have K9 := hide (set3_keeps K8.out hle.out (.int .i64 room) (.slice qa ql qc) (.int .i64 (ch + 1)))
      have RD9 := hide (((RD8.out.setOther (x := ⟨H, 0, none⟩) (fun a n k e => by have h1 := hBF.out a n k e; have h2 := hlt5.out.2; show a.block ≠ H; omega) (.int .i64 room)).setOther (x := ⟨H, 1, none⟩) (fun a n k e => by have h1 := hBF.out a n k e; have h2 := hlt5.out.2; show a.block ≠ H; omega) (.slice qa ql qc)).setOther (x := ⟨H, 2, none⟩) (fun a n k e => by have h1 := hBF.out a n k e; have h2 := hlt5.out.2; show a.block ≠ H; omega) (.int .i64 (ch + 1)))
      unfold set3 at Y K9
      clear R8 K8
      go_wp2_with fail
      generalize ((W8.setCell ⟨H, 0, none⟩ (.int .i64 room)).setCell ⟨H, 1, none⟩ (.slice qa ql qc)).setCell ⟨H, 2, none⟩ (.int .i64 (ch + 1)) = W9 at *
      obtain ⟨s0, s1, s2⟩ := Y.out.three.1
      exact bodyPost_ret (v := .tuple #[.agg #[.int .i64 room, .slice qa ql qc, .int .i64 (ch + 1)], .int .i64 0]) (by simp [results, Try.results14, go_sem, s0, s1, s2]) rfl (HE1.out hRE.out _ _ _ RD9.out hC2.out hM2.out (fun a n k e => Nat.le_trans hlow (hBF.out a n k e)) K9.out)
    · have hC2 : Hid (itemsZ ZN = Sto.cut (Sto.without (itemsZ zs) x.key ++ [⟨x, TL, rank⟩]) room) := by have h := hCUT.out; rw [if_neg hgt] at h; exact h.symm
      clear hCUT
      go_upto_region 13 with fail
      obtain ⟨⟨-, -, -⟩, ⟨f0, f1, f2⟩, _⟩ := A7.out.three
      go_upto_region 15 with fail
      have A8 := hide (show Blk ((w7.setCell ⟨F, 1, none⟩ (.slice ua ul uc)).setCell ⟨F, 2, none⟩ (.int .i64 (ch + 1))) F #[.int .i64 room, (.slice ua ul uc), .int .i64 (ch + 1)] 29 by have := (A7.out.set 1 (.slice ua ul uc)).set 2 (.int .i64 (ch + 1)); simpa using this)
      have R8 := hide ((R7.out.other (a := ⟨F, 1, none⟩) hne.out.1 (.slice ua ul uc)).other (a := ⟨F, 2, none⟩) hne.out.1 (.int .i64 (ch + 1)))
      have K8 := hide ((K7.out.setC ⟨F, 1, none⟩ (Nat.le_of_eq hF.out) (.slice ua ul uc)).setC ⟨F, 2, none⟩ (Nat.le_of_eq hF.out) (.int .i64 (ch + 1)))
      have RD8 := hide ((hRD7.out.setOther (x := ⟨F, 1, none⟩) (fun a n k e => by have h1 := hABV.out a n k e; have h2 := hlt5.out.1; show a.block ≠ F; omega) (.slice ua ul uc)).setOther (x := ⟨F, 2, none⟩) (fun a n k e => by have h1 := hABV.out a n k e; have h2 := hlt5.out.1; show a.block ≠ F; omega) (.int .i64 (ch + 1)))
      generalize (w7.setCell ⟨F, 1, none⟩ (.slice ua ul uc)).setCell ⟨F, 2, none⟩ (.int .i64 (ch + 1)) = W8 at *
      clear a0 a1 a2 f0 f1 f2 A7 R7 K7
      obtain ⟨a0, a1, a2⟩ := A8.out.three.1
      obtain ⟨⟨r0, r1, r2⟩, ⟨g0, g1, g2⟩, _⟩ := R8.out.three
      have Y := hide (set3_blk R8.out (.int .i64 room) (.slice ua ul uc) (.int .i64 (ch + 1)))
      have K9 := hide (set3_keeps K8.out hle.out (.int .i64 room) (.slice ua ul uc) (.int .i64 (ch + 1)))
      have RD9 := hide (((RD8.out.setOther (x := ⟨H, 0, none⟩) (fun a n k e => by have h1 := hABV.out a n k e; have h2 := hlt5.out.2; show a.block ≠ H; omega) (.int .i64 room)).setOther (x := ⟨H, 1, none⟩) (fun a n k e => by have h1 := hABV.out a n k e; have h2 := hlt5.out.2; show a.block ≠ H; omega) (.slice ua ul uc)).setOther (x := ⟨H, 2, none⟩) (fun a n k e => by have h1 := hABV.out a n k e; have h2 := hlt5.out.2; show a.block ≠ H; omega) (.int .i64 (ch + 1)))
      unfold set3 at Y K9
      clear R8 K8
      go_wp2_with fail
      generalize ((W8.setCell ⟨H, 0, none⟩ (.int .i64 room)).setCell ⟨H, 1, none⟩ (.slice ua ul uc)).setCell ⟨H, 2, none⟩ (.int .i64 (ch + 1)) = W9 at *
      obtain ⟨s0, s1, s2⟩ := Y.out.three.1
      exact bodyPost_ret (v := .tuple #[.agg #[.int .i64 room, .slice ua ul uc, .int .i64 (ch + 1)], .int .i64 0]) (by simp [results, Try.results14, go_sem, s0, s1, s2]) rfl (HE1.out hRE.out _ _ _ RD9.out hC2.out hMZ.out (fun a n k e => Nat.le_trans hlow (hABV.out a n k e)) K9.out)
end Go.Proofs.Ytdlaepfnogmebaa
