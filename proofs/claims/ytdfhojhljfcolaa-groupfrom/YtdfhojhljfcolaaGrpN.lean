/- Where sets lie, and what the document's Sets tells of two lists. No condition but lengths. -/
import Derived.Test.YtdfhojhljfcolaaGrpM
import Derived.Test.YtdfhojhljfcolaaGrpA
namespace Go.Proofs.Ytdfhojhljfcolaa
open Go.RowKit

/-- Where one set lies. -/
def OneAt (w : World) (g o : Nat) (x : St) (vx : Value) : Prop := w.cell? ⟨g, o, none⟩ = some (.string x.key.n) ∧ w.cell? ⟨g, o + 1, none⟩ = some (.int .i64 x.key.t) ∧ w.cell? ⟨g, o + 2, none⟩ = some (.int .i64 x.key.c) ∧ w.cell? ⟨g, o + 3, none⟩ = some (vx) ∧ w.cell? ⟨g, o + 4, none⟩ = some (.int .i64 x.ttl) ∧ g < w.heap.size
theorem OneAt.keeps {w w' : World} {g o : Nat} {x : St} {vx : Value} (h : OneAt w g o x vx) (k : Keeps w w') : OneAt w' g o x vx := by
  obtain ⟨h0, h1, h2, h3, h4, hl⟩ := h
  exact ⟨(Below.cell (p := ⟨g, o, none⟩) k hl).trans h0, (Below.cell (p := ⟨g, o + 1, none⟩) k hl).trans h1, (Below.cell (p := ⟨g, o + 2, none⟩) k hl).trans h2, (Below.cell (p := ⟨g, o + 3, none⟩) k hl).trans h3, (Below.cell (p := ⟨g, o + 4, none⟩) k hl).trans h4, Nat.lt_of_lt_of_le hl k.size⟩
theorem no_set {w : World} {v : Value} (h : SetsAt w v []) : ∃ a cap, v = .slice a 0 cap := by
  obtain ⟨ss, h1, h2, h3⟩ := h
  rw [List.map_eq_nil_iff] at h1
  subst h1
  obtain ⟨ad, cap, rfl, _, _⟩ := h2
  exact ⟨ad, cap, rfl⟩
theorem SetsAt.keeps {w w' : World} {v : Value} {l : List St} (h : SetsAt w v l) (k : Keeps w w') : SetsAt w' v l := by
  obtain ⟨ss, h1, h2, h3⟩ := h
  exact ⟨ss, h1, h2.keeps k, fun x hx => (h3 x hx).keeps k⟩
theorem SetsAt.len {w : World} {v : Value} {l : List St} (h : SetsAt w v l) : ∃ a cap, v = .slice a l.length cap := by
  obtain ⟨ss, rfl, h2, _⟩ := h
  obtain ⟨a, cap, rfl⟩ := h2.len
  exact ⟨a, cap, by rw [List.length_map, List.length_map]⟩
theorem SetsAt.at {w : World} {v : Value} {l : List St} (h : SetsAt w v l) (hp : 0 < l.length) : ∃ b off cap, v = .slice (some ⟨b, off, none⟩) l.length cap ∧ b < w.heap.size ∧ ∀ i (hi : i < l.length), ∃ vd, ReadS w vd l[i].ds ∧ OneAt w b (off + i * 5) l[i] vd := by
  obtain ⟨ss, rfl, h2, h3⟩ := h
  obtain ⟨ad, cap, rfl, _, h5⟩ := h2
  rw [List.length_map] at hp
  obtain ⟨b, off, rfl, hg, hc⟩ := h5 (by rw [List.length_map]; exact hp)
  refine ⟨b, off, cap, by rw [List.length_map, List.length_map], hg, fun i hi => ?_⟩
  have hi' : i < ss.length := by rw [List.length_map] at hi; exact hi
  have e : ∀ k, k < 5 → w.cell? ⟨b, off + i * 5 + k, none⟩ = (stR ss[i])[k]? := fun k hk => by
    rw [hc i (by rw [List.length_map]; exact hi') k hk]
    simp
  refine ⟨ss[i].2, ?_, ?_⟩
  · rw [List.getElem_map]
    exact h3 _ (List.getElem_mem hi')
  · rw [List.getElem_map]
    exact ⟨e 0 (by omega), e 1 (by omega), e 2 (by omega), e 3 (by omega), e 4 (by omega), hg⟩

set_option maxHeartbeats 4000000 in
set_option maxRecDepth 100000 in
theorem refSets_any (v u : Value) (l k : List St) (w : World) (hv : SetsAt w v l) (hu : SetsAt w u k) (hl : l.length ≤ maxLen) (hk : k.length ≤ maxLen) (hd : ∀ s ∈ l, s.ds.length ≤ 1099511627776) :
    Calls Try.prog 13 #[v, u] w fun e w' => e = .returned (.bool (decide (l = k))) ∧ Keeps w w' := by
  have hl' := hl
  have hk' := hk
  unfold maxLen at hl' hk'
  by_cases hlen : l.length = k.length
  · rcases Nat.eq_zero_or_pos l.length with h0 | hp
    · have hk0 : k = [] := List.length_eq_zero_iff.1 (by omega)
      have hl0 : l = [] := List.length_eq_zero_iff.1 h0
      subst hk0 hl0
      obtain ⟨a1, c1, rfl⟩ := hv.len
      obtain ⟨a2, c2, rfl⟩ := hu.len
      simp only [List.length_nil]
      go_enter Try.func13, Try.ntmps13
      go_wp2_with fail
      go_loopw [5] (fun i wr => i = .int .i64 0 ∧ wr = w) (fun _ _ => 0)
      case atStart => exact ⟨rfl, rfl⟩
      case round =>
        obtain ⟨rfl, rfl⟩ := hrel
        go_wp2
        go_ret
        exact ⟨rfl, Keeps.refl _⟩
    · obtain ⟨b, off, cap, rfl, _, hc⟩ := hv.at hp
      obtain ⟨b2, off2, cap2, rfl, _, hc2⟩ := hu.at (by omega)
      have hne : ((l.length : Int) != (k.length : Int)) = false := by rw [hlen]; simp
      have HC := hide hc
      have HC2 := hide hc2
      clear hc hc2 hv hu
      replace hlen := hide hlen
      go_enter Try.func13, Try.ntmps13
      go_wp2
      go_loopw [5] (fun i wr => ∃ j : Nat, j ≤ l.length ∧ i = .int .i64 j ∧ Hid (l.take j = k.take j) ∧ Keeps w wr) (fun i _ => l.length - (intOf i).toNat)
      case atStart => exact ⟨0, by omega, rfl, by simp [Hid], Keeps.refl _⟩
      case round =>
        obtain ⟨j, hj, rfl, HA, K⟩ := hrel
        by_cases hlt : j < l.length
        · have hlt2 : j < k.length := by have := hlen.out; omega
          have i2 : (j : Int) < (l.length : Int) := by omega
          have i3 : (j : Int) < (k.length : Int) := by omega
          have i0 : (0 : Int) ≤ (j : Int) := by omega
          obtain ⟨vd, rd, O1⟩ := HC.out j hlt
          obtain ⟨ud, sd, O2⟩ := HC2.out j hlt2
          have hdm := hd l[j] (List.getElem_mem hlt)
          have HS := hide (fun e => take8_step hlt hlt2 HA.out e)
          have HN := hide (fun e => ne_at hlt hlt2 e)
          generalize hoo : off + j * 5 = o at *
          generalize hoo2 : off2 + j * 5 = o2 at *
          generalize l[j] = x at *
          generalize k[j] = y at *
          have HQ := hide (fun W (kk : Keeps w W) => refGSame_any _ _ x y W ⟨vd, rfl, rd.keeps kk⟩ ⟨ud, rfl, sd.keeps kk⟩ hdm)
          have K0 := K
          replace O1 := (O1.keeps K)
          replace O2 := (O2.keeps K)
          have HT := hide (fun w' (kk : Keeps wr.drew w') => (by
            obtain ⟨p0, p1, p2, p3, p4, _⟩ := O1.keeps (Keeps.trans ((Keeps.refl _).drew) kk)
            obtain ⟨q0, q1, q2, q3, q4, _⟩ := O2.keeps (Keeps.trans ((Keeps.refl _).drew) kk)
            exact ⟨p0, p1, p2, p3, p4, q0, q1, q2, q3, q4⟩ : w'.cell? ⟨b, o, none⟩ = some (.string x.key.n) ∧ w'.cell? ⟨b, o + 1, none⟩ = some (.int .i64 x.key.t) ∧ w'.cell? ⟨b, o + 2, none⟩ = some (.int .i64 x.key.c) ∧ w'.cell? ⟨b, o + 3, none⟩ = some (vd) ∧ w'.cell? ⟨b, o + 4, none⟩ = some (.int .i64 x.ttl) ∧ w'.cell? ⟨b2, o2, none⟩ = some (.string y.key.n) ∧ w'.cell? ⟨b2, o2 + 1, none⟩ = some (.int .i64 y.key.t) ∧ w'.cell? ⟨b2, o2 + 2, none⟩ = some (.int .i64 y.key.c) ∧ w'.cell? ⟨b2, o2 + 3, none⟩ = some (ud) ∧ w'.cell? ⟨b2, o2 + 4, none⟩ = some (.int .i64 y.ttl)))
          have T := HT.out _ (Keeps.refl _)
          have KK : Keeps wr.drew wr.drew := Keeps.refl _
          clear O1 O2 rd sd HC HC2 hd
          by_cases he : x = y
          · have HE := hide (HS.out he)
            rw [decide_eq_true he] at HQ
            clear he HS HN HA
            go_wp2_with fail
            go_region_held3 (fun w' => w'.cell? ⟨b, o, none⟩ = some (.string x.key.n) ∧ w'.cell? ⟨b, o + 1, none⟩ = some (.int .i64 x.key.t) ∧ w'.cell? ⟨b, o + 2, none⟩ = some (.int .i64 x.key.c) ∧ w'.cell? ⟨b, o + 3, none⟩ = some (vd) ∧ w'.cell? ⟨b, o + 4, none⟩ = some (.int .i64 x.ttl) ∧ w'.cell? ⟨b2, o2, none⟩ = some (.string y.key.n) ∧ w'.cell? ⟨b2, o2 + 1, none⟩ = some (.int .i64 y.key.t) ∧ w'.cell? ⟨b2, o2 + 2, none⟩ = some (.int .i64 y.key.c) ∧ w'.cell? ⟨b2, o2 + 3, none⟩ = some (ud) ∧ w'.cell? ⟨b2, o2 + 4, none⟩ = some (.int .i64 y.ttl)) (exact T) ((go_at_call 23; refine (HQ.out _ (Keeps.trans K0.drew KK)).mono ?_; rintro e w5 ⟨rfl, k5⟩; replace KK := Keeps.trans KK k5; replace T := HT.out _ KK; clear k5))
            go_wp2
            go_roundw
            case rel => exact ⟨j + 1, by omega, by go_num, HE, K0.drew.trans KK⟩
            case measure => simp [intOf]; omega
          · have HE := hide (HN.out he)
            rw [decide_eq_false he] at HQ
            clear he HS HN HA
            go_wp2_with fail
            go_region_held3 (fun w' => w'.cell? ⟨b, o, none⟩ = some (.string x.key.n) ∧ w'.cell? ⟨b, o + 1, none⟩ = some (.int .i64 x.key.t) ∧ w'.cell? ⟨b, o + 2, none⟩ = some (.int .i64 x.key.c) ∧ w'.cell? ⟨b, o + 3, none⟩ = some (vd) ∧ w'.cell? ⟨b, o + 4, none⟩ = some (.int .i64 x.ttl) ∧ w'.cell? ⟨b2, o2, none⟩ = some (.string y.key.n) ∧ w'.cell? ⟨b2, o2 + 1, none⟩ = some (.int .i64 y.key.t) ∧ w'.cell? ⟨b2, o2 + 2, none⟩ = some (.int .i64 y.key.c) ∧ w'.cell? ⟨b2, o2 + 3, none⟩ = some (ud) ∧ w'.cell? ⟨b2, o2 + 4, none⟩ = some (.int .i64 y.ttl)) (exact T) ((go_at_call 23; refine (HQ.out _ (Keeps.trans K0.drew KK)).mono ?_; rintro e w5 ⟨rfl, k5⟩; replace KK := Keeps.trans KK k5; replace T := HT.out _ KK; clear k5))
            go_wp2
            go_ret
            exact ⟨ret_bool (by rw [decide_eq_false HE.out]), K0.drew.trans KK⟩
        · obtain rfl : j = l.length := by omega
          have HE : Hid (l = k) := by
            have := HA.out
            rw [List.take_length, hlen.out, List.take_length] at this
            exact this
          go_wp2
          go_ret
          exact ⟨ret_bool (by rw [decide_eq_true HE.out]), K⟩
  · obtain ⟨a1, c1, rfl⟩ := hv.len
    obtain ⟨a2, c2, rfl⟩ := hu.len
    have hne : ((l.length : Int) != (k.length : Int)) = true := by rw [bne_iff_ne]; omega
    have HE : Hid (¬ l = k) := fun h => hlen (by rw [h])
    go_enter Try.func13, Try.ntmps13
    go_wp2
    go_ret
    exact ⟨ret_bool (by rw [decide_eq_false HE.out]), Keeps.refl _⟩

/-! ### The sizes of what records come to. -/
theorem fold_len : ∀ (l : List Rec) (a : List St) (n : Nat), (a.length ≤ n ∧ ∀ s ∈ a, s.ds.length ≤ n) → ((l.foldl stepM a).length ≤ n + l.length ∧ ∀ s ∈ l.foldl stepM a, s.ds.length ≤ n + l.length)
  | [], _, _, h => h
  | r :: l, a, n, h => by
    have hs : (stepM a r).length ≤ n + 1 ∧ ∀ s ∈ stepM a r, s.ds.length ≤ n + 1 := by
      unfold stepM
      split
      · constructor
        · have e := congrArg List.length (layM_keys (keyM r) r.l (lowR r) a)
          rw [List.length_map] at e
          rw [e]
          split <;> simp <;> omega
        · intro s hs
          rcases layM_mem hs with hs | rfl | ⟨y, hy, _, rfl⟩
          · have := h.2 s hs
            omega
          · simp
          · have := h.2 y hy
            show (addD y.ds (lowR r)).length ≤ n + 1
            unfold addD
            split
            · omega
            · simp
              omega
      · exact ⟨by omega, fun s hs => by have := h.2 s hs; omega⟩
    have := fold_len l (stepM a r) (n + 1) hs
    rw [List.foldl_cons, List.length_cons]
    exact ⟨by omega, fun s hs => by have := this.2 s hs; omega⟩
theorem from_len (l : List Rec) : (fromM l).length ≤ l.length ∧ ∀ s ∈ fromM l, s.ds.length ≤ l.length := by
  have := fold_len l [] 0 ⟨by simp, by simp⟩
  rw [Nat.zero_add] at this
  exact this
theorem stOk_fine {s : St} (h : stOk s = true) (hl : s.ds.length ≤ maxLen) : StFine s := by
  obtain ⟨h1, h2, h3, h4⟩ := stOk_parts.1 h
  obtain ⟨d, hd⟩ := List.exists_mem_of_ne_nil _ h1
  have hk := h3 d hd
  rw [dataOk, Bool.and_eq_true] at hk
  have h5 := (recOk_parts.1 hk.1).1
  refine ⟨?_, hl, fun d hd => ?_⟩
  · have := (Nm.okL_spec _).1 h5 |>.1
    have e : (bl s.key.n).length = s.key.n.size := bl_length _
    show s.key.n.size ≤ maxLen
    change (bl s.key.n).length ≤ 255 at this
    unfold maxLen
    omega
  · have hk := h3 d hd
    rw [dataOk, Bool.and_eq_true, beq_iff_eq] at hk
    have := lowD_len s.key.t d
    rw [hk.2] at this
    unfold maxLen
    omega
end Go.Proofs.Ytdfhojhljfcolaa
