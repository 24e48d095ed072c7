/- Plain functions: what layer 10 tells of records. No condition. Package group's small functions: one, Key; the document's Key. No condition but lengths. How a set reads; Check of package group. No condition but lengths. -/
import Derived.Test.YtdlaepfnogmebaaMany
import Derived.Test.YtdlaepfnogmebaaMsgW7
import Derived.Deep.RegionHeld3
import Derived.Deep.RegionWith
import Derived.Deep.DeepCutAuto
import Derived.Test.YtdlaepfnogmebaaMaps
namespace Go.Proofs.Ytdlaepfnogmebaa
open Go.RowKit

/-- A set: its key, its data, its time. -/
structure St where
  key : Qn
  ds : List (List UInt8)
  ttl : Int
  deriving DecidableEq
def noSt : St := ⟨noQn, [], 0⟩
def lowR (r : Rec) : List UInt8 := Dt.lowD r.t (bl r.d)
def keyM (r : Rec) : Qn := if recOk r then ⟨lowS r.n, r.t, r.c⟩ else noQn
/-- The record of a set that holds d. -/
def oneM (q : Qn) (ttl : Int) (d : List UInt8) : Rec := ⟨q.n, q.t, q.c, ttl, ⟨d.toArray⟩⟩
def dataOk (q : Qn) (ttl : Int) (d : List UInt8) : Bool := recOk (oneM q ttl d) && (Dt.lowD q.t d == d)
def stOk (s : St) : Bool := decide (s.ds ≠ []) && decide (lowS s.key.n = s.key.n) && s.ds.all (dataOk s.key s.ttl) && decide s.ds.Nodup
def addD (l : List (List UInt8)) (d : List UInt8) : List (List UInt8) := if d ∈ l then l else l ++ [d]
def layM (k : Qn) (ttl : Int) (d : List UInt8) : List St → List St
  | [] => [⟨k, [d], ttl⟩]
  | s :: l => if s.key = k then ⟨s.key, addD s.ds d, min s.ttl ttl⟩ :: l else s :: layM k ttl d l
def usedB (r : Rec) : Bool := recOk r && decide (r.t ≠ 41)
def stepM (l : List St) (r : Rec) : List St := if usedB r then layM (keyM r) r.l (lowR r) l else l
def fromM (l : List Rec) : List St := l.foldl stepM []
def turned {α : Type} (l : List α) (k : Nat) : List α := l.drop (k % l.length) ++ l.take (k % l.length)
def flatM (s : St) (ttl : Int) (turn : Int) : List Rec := if stOk s && decide (0 ≤ ttl ∧ ttl ≤ 2147483647) && decide (0 ≤ turn) then (turned s.ds turn.toNat).map (oneM s.key ttl) else []
theorem bl_of (d : List UInt8) : bl ⟨d.toArray⟩ = d := by simp [bl]
theorem turned_length {α : Type} (l : List α) (k : Nat) : (turned l k).length = l.length := by
  by_cases h : l.length = 0
  · have : l = [] := List.length_eq_zero_iff.1 h
    subst this; simp [turned]
  have := Nat.mod_lt k (show 0 < l.length by omega)
  simp [turned]; omega
theorem turned_get {α : Type} (l : List α) (k i : Nat) (hi : i < l.length) : (turned l k)[i]? = l[(k % l.length + i) % l.length]? := by
  have hm := Nat.mod_lt k (show 0 < l.length by omega)
  unfold turned
  generalize k % l.length = f at *
  by_cases h : f + i < l.length
  · rw [Nat.mod_eq_of_lt h, List.getElem?_append_left (by simp; omega), List.getElem?_drop]
  · have e : (f + i) % l.length = f + i - l.length := by rw [Nat.mod_eq_sub_mod (by omega), Nat.mod_eq_of_lt (by omega)]
    rw [e, List.getElem?_append_right (by simp; omega), List.length_drop, List.getElem?_take_of_lt (by omega)]
    congr 1
    omega
end Go.Proofs.Ytdlaepfnogmebaa

namespace Go.Proofs.Ytdlaepfnogmebaa
open Go.RowKit

theorem one_any (q : Qn) (ttl : Int) (d : ByteArray) (w : World) :
    Calls Try.prog 111 #[qnV q, .int .i64 ttl, .string d] w fun e w' => e = .returned (recV ⟨q.n, q.t, q.c, ttl, d⟩) ∧ Keeps w w' := by
  obtain ⟨n, t, c⟩ := q
  unfold qnV recV
  have K := hide (((Keeps.refl w).alloc (.cells #[.string n, .int .i64 t, .int .i64 c] 32)).alloc (.cells #[.string n, .int .i64 t, .int .i64 c, .int .i64 ttl, .string d] 161))
  go_enter Try.func111, Try.ntmps111
  go_wp2
  exact bodyPost_ret (v := .agg #[.string n, .int .i64 t, .int .i64 c, .int .i64 ttl, .string d]) (by simp [results, Try.results111, go_sem]) rfl ⟨rfl, K.out⟩

theorem size_allocG (w : World) (o : Obj) : (w.alloc o).heap.size = w.heap.size + 1 := by simp
theorem Keeps.three {w W : World} (K : Keeps w W) {G : Nat} (hle : w.heap.size ≤ G) (a b c : Value) :
    Keeps w (((W.setCell ⟨G, 0, none⟩ a).setCell ⟨G, 1, none⟩ b).setCell ⟨G, 2, none⟩ c) :=
  Below.setCell (Below.setCell (Below.setCell K hle _) hle _) hle _

theorem Blk.five_cells {w : World} {G : Nat} {p q r s t : Value} {ty : TypeId} (h : Blk w G #[p, q, r, s, t] ty) :
    w.cell? ⟨G, 0, none⟩ = some p ∧ w.cell? ⟨G, 1, none⟩ = some q ∧ w.cell? ⟨G, 2, none⟩ = some r ∧ w.cell? ⟨G, 3, none⟩ = some s ∧ w.cell? ⟨G, 4, none⟩ = some t ∧ G < w.heap.size :=
  ⟨h.cell 0, h.cell 1, h.cell 2, h.cell 3, h.cell 4, h.lt⟩

end Go.Proofs.Ytdlaepfnogmebaa

namespace Go.Proofs.Ytdlaepfnogmebaa
open Go.RowKit
open Go.Maps (Keyed)

/-- The value v reads as the set s. -/
def StAt (w : World) (v : Value) (s : St) : Prop := ∃ vd, v = .agg #[.string s.key.n, .int .i64 s.key.t, .int .i64 s.key.c, vd, .int .i64 s.ttl] ∧ ReadS w vd s.ds
theorem StAt.keeps {w w' : World} {v : Value} {s : St} (h : StAt w v s) (k : Keeps w w') : StAt w' v s := by
  obtain ⟨vd, rfl, h⟩ := h
  exact ⟨vd, rfl, h.keeps k⟩
/-- Its texts are no longer than texts can be. -/
def StFine (s : St) : Prop := s.key.n.size ≤ maxLen ∧ s.ds.length ≤ maxLen ∧ ∀ d ∈ s.ds, d.length ≤ maxLen

theorem toList_beq (a b : ByteArray) : (a.toList == b.toList) = decide (a = b) := by
  by_cases h : a = b
  · subst h; simp
  · rw [decide_eq_false h, beq_eq_false_iff_ne]
    intro e
    apply h
    rw [toList_bl, toList_bl] at e
    cases a; cases b
    simp only [bl] at e
    congr 1
    exact Array.ext' e
theorem lawS : Keyed Try.prog 9 := Go.Maps.string_keyed Try.underlying9
theorem zeroI (w : World) : (zeroValue 3).run Try.prog w = .ok (.int .i64 0) w := by kernel_rfl
theorem keyS {d : List UInt8} (h : d.length ≤ maxLen) : ∃ kl, keyOf Try.prog 9 (sv d) = some kl := ⟨_, WideMaps.keyOf_string_mk Try.underlying9 (by show d.toArray.size ≤ maxLen; simpa using h)⟩
theorem sv_inj (x y : List UInt8) (h : sv x = sv y) : x = y := by
  simpa [sv] using h

theorem all_upto {α : Type} (p : α → Bool) (l : List α) (j : Nat) (hj : j < l.length) (h : (l.take j).all p = true) (hp : p l[j] = true) : (l.take (j + 1)).all p = true := by
  rw [List.take_succ_eq_append_getElem hj, List.all_append, h]
  simp [hp]
theorem all_not {α : Type} (p : α → Bool) (l : List α) (j : Nat) (hj : j < l.length) (hp : p l[j] = false) : l.all p = false := by
  rw [List.all_eq_false]
  exact ⟨l[j], List.getElem_mem hj, by simp [hp]⟩
theorem nodup_upto {α : Type} [DecidableEq α] (l : List α) (j : Nat) (hj : j < l.length) (h : (l.take j).Nodup) (hn : l[j] ∉ l.take j) : (l.take (j + 1)).Nodup := by
  rw [List.take_succ_eq_append_getElem hj, List.nodup_append]
  refine ⟨h, by simp, ?_⟩
  intro a ha b hb
  simp at hb
  subst hb
  intro e
  subst e
  exact hn ha
theorem nodup_not {α : Type} [DecidableEq α] (l : List α) (j : Nat) (hj : j < l.length) (hn : l[j] ∈ l.take j) : ¬ l.Nodup := by
  intro h
  rw [← List.take_append_drop j l, List.nodup_append] at h
  have hm : l[j] ∈ l.drop j := by rw [List.drop_eq_getElem_cons hj]; exact List.mem_cons_self
  exact h.2.2 _ hn _ hm rfl

/-- How far Check has come. -/
def ChkRel (w : World) (s : St) (G P : Nat) (a : Option Addr) (cap : Nat) (i : Value) (wr : World) : Prop :=
  ∃ j n : Nat, ∃ f : List UInt8 → Option Int, j ≤ s.ds.length ∧ n ≤ j ∧ i = .int .i64 j ∧ (s.ds.take j).all (dataOk s.key s.ttl) = true ∧ (s.ds.take j).Nodup ∧ MapAt wr 9 3 sv P n f ∧ (∀ d, (f d).isSome = true ↔ d ∈ s.ds.take j) ∧ Blk wr G #[.string s.key.n, .int .i64 s.key.t, .int .i64 s.key.c, .slice a s.ds.length cap, .int .i64 s.ttl] 35 ∧ Keeps w wr

set_option maxHeartbeats 4000000 in
set_option maxRecDepth 100000 in
theorem GCheck_nil (q : Qn) (ttl : Int) (a : Option Addr) (cap : Nat) (w : World) :
    Calls Try.prog 72 #[.agg #[.string q.n, .int .i64 q.t, .int .i64 q.c, .slice a 0 cap, .int .i64 ttl]] w fun e w' => e = .returned (.bool false) ∧ Keeps w w' := by
  have B := hide (Blk.made w #[.string q.n, .int .i64 q.t, .int .i64 q.c, .slice a 0 cap, .int .i64 ttl] 35)
  have K := hide ((Keeps.refl w).alloc (.cells #[.string q.n, .int .i64 q.t, .int .i64 q.c, .slice a 0 cap, .int .i64 ttl] 35))
  go_enter Try.func72, Try.ntmps72
  go_upto_region 1 with fail
  generalize w.alloc (.cells #[.string q.n, .int .i64 q.t, .int .i64 q.c, .slice a 0 cap, .int .i64 ttl] 35) = W at *
  generalize hGw : w.heap.size = G at *
  have t0 := B.out.cell 0
  have t3 := B.out.cell 3
  go_region
  go_wp2
  go_ret
  exact ⟨rfl, K.out.drew⟩

set_option maxHeartbeats 4000000 in
set_option maxRecDepth 100000 in
theorem GCheck_any (v : Value) (s : St) (w : World) (hv : StAt w v s) (hf : StFine s) :
    Calls Try.prog 72 #[v] w fun e w' => e = .returned (.bool (stOk s)) ∧ Keeps w w' := by
  obtain ⟨vd, rfl, hd⟩ := hv
  obtain ⟨f1, f2, f3⟩ := hf
  obtain ⟨a, cap, hvd⟩ := hd.len
  subst hvd
  by_cases h0 : s.ds = []
  · have e : stOk s = false := by simp [stOk, h0]
    rw [e, h0]
    exact GCheck_nil s.key s.ttl a cap w
  have hpos : 0 < s.ds.length := List.length_pos_iff.2 h0
  have HN : Hid (decide (s.ds ≠ []) = true) := by rw [Hid, decide_eq_true_eq]; exact h0
  clear h0
  have HO := hide (show stOk s = (decide (s.ds ≠ []) && decide (lowS s.key.n = s.key.n) && s.ds.all (dataOk s.key s.ttl) && decide s.ds.Nodup) from rfl)
  have HL := hide (fun W => low_any s.key.n W f1)
  have B := hide (Blk.made w #[.string s.key.n, .int .i64 s.key.t, .int .i64 s.key.c, .slice a s.ds.length cap, .int .i64 s.ttl] 35)
  have K := hide ((Keeps.refl w).alloc (.cells #[.string s.key.n, .int .i64 s.key.t, .int .i64 s.key.c, .slice a s.ds.length cap, .int .i64 s.ttl] 35))
  generalize stOk s = R at *
  have hmm := @run_makeMap Try.prog
  go_enter Try.func72, Try.ntmps72
  go_upto_region 1 with fail
  generalize w.alloc (.cells #[.string s.key.n, .int .i64 s.key.t, .int .i64 s.key.c, .slice a s.ds.length cap, .int .i64 s.ttl] 35) = W at *
  generalize hGw : w.heap.size = G at *
  have HT : Hid (∀ w', Keeps W.drew w' → w'.cell? ⟨G, 0, none⟩ = some (.string s.key.n) ∧ w'.cell? ⟨G, 3, none⟩ = some (.slice a s.ds.length cap)) := fun w' k => ⟨(B.out.drew.keeps k).cell 0, (B.out.drew.keeps k).cell 3⟩
  have T := HT.out _ (Keeps.refl _)
  have KK : Keeps W.drew W.drew := Keeps.refl _
  have hz : ((s.ds.length : Int) == 0) = false := by rw [beq_eq_false_iff_ne]; omega
  clear hpos
  generalize lowS s.key.n = ln at *
  go_wp2_with fail
  go_region_held3 (fun w' => w'.cell? ⟨G, 0, none⟩ = some (.string s.key.n) ∧ w'.cell? ⟨G, 3, none⟩ = some (.slice a s.ds.length cap)) (exact T) ((go_at_call 109; refine (HL.out _).mono ?_; rintro e w2 ⟨rfl, k2⟩; replace KK := Keeps.trans KK k2; replace T := HT.out _ KK; clear k2))
  replace B := hide (B.out.drew.keeps KK)
  have hGP := B.out.lt
  replace K := hide (K.out.drew.trans KK)
  clear T KK HT HL
  cases hlw : (ln.toList == s.key.n.toList)
  · have HE : Hid (R = false) := by
      have : decide (ln = s.key.n) = false := by rw [← toList_beq]; exact hlw
      rw [Hid, HO.out, this]; simp
    go_wp2
    go_ret
    exact ⟨ret_bool HE.out.symm, K.out⟩
  have HO2 : Hid (R = (s.ds.all (dataOk s.key s.ttl) && decide s.ds.Nodup)) := by
    have : decide (ln = s.key.n) = true := by rw [← toList_beq]; exact hlw
    rw [Hid, HO.out, this, HN.out]; simp
  clear HO HN
  have Mp := hide (MapAt.made w2 9 3 sv)
  have k1 := (Keeps.refl w2).alloc (.map #[] 0)
  replace B := hide (B.out.keeps k1)
  replace K := hide (K.out.trans k1)
  go_upto_region 4 with fail
  generalize w2.alloc (.map #[] 0) = W3 at *
  generalize w2.heap.size = P at *
  obtain ⟨b0, b1, b2, b3, b4, _⟩ := B.out.five_cells
  have HD := hide hd
  have HF := hide f3
  have HONE := hide (fun d W => one_any s.key s.ttl d W)
  have HCHK := hide (fun (d : ByteArray) W (h : d.size ≤ maxLen) => rcheck_any ⟨s.key.n, s.key.t, s.key.c, s.ttl, d⟩ W f1 h)
  have HLOW := hide (fun (d : ByteArray) W (h : d.size ≤ maxLen) => dlow_any s.key.t d W h)
  clear hd f3 hmm k1 hz f1
  go_wp2
  clear b0 b1 b2 b3 b4
  have hwle : w.heap.size ≤ P := by omega
  go_loopw [26] (fun i wr => ChkRel w s G P a cap i wr) (fun i _ => s.ds.length - (intOf i).toNat)
  case atStart => exact ⟨0, 0, fun _ => none, by omega, by omega, rfl, by simp, by simp, Mp.out, by simp, B.out, K.out⟩
  case round =>
    clear B K Mp
    obtain ⟨j, n, f, hj, hn, rfl, HA, HND, Mp, HI, B, K⟩ := hrel
    replace HA := hide HA
    replace HND := hide HND
    replace Mp := hide Mp
    replace HI := hide HI
    replace B := hide B
    replace K := hide K
    by_cases hlt : j < s.ds.length
    · have i2 : (j : Int) < (s.ds.length : Int) := by omega
      have i0 : (0 : Int) ≤ (j : Int) := by omega
      obtain ⟨b, off, cap', he, _, hcell, _⟩ := (HD.out.keeps K.out).parts (by omega)
      simp only [Value.slice.injEq, true_and] at he
      obtain ⟨rfl, rfl⟩ := he
      have hc := hcell j hlt
      have hsz := HF.out _ (List.getElem_mem hlt)
      have HS1 := hide (all_upto (dataOk s.key s.ttl) s.ds j hlt HA.out)
      have HS2 := hide (all_not (dataOk s.key s.ttl) s.ds j hlt)
      have HS3 := hide (nodup_upto s.ds j hlt HND.out)
      have HS4 := hide (nodup_not s.ds j hlt)
      have HTK := hide (show s.ds.take (j + 1) = s.ds.take j ++ [s.ds[j]] from List.take_succ_eq_append_getElem hlt)
      clear hcell HA HND
      generalize hoo : off + j = o at hc
      generalize s.ds[j] = d at *
      unfold sv at hc
      have hszb : (⟨d.toArray⟩ : ByteArray).size ≤ maxLen := by show d.toArray.size ≤ maxLen; simpa using hsz
      have HOK := hide (show dataOk s.key s.ttl d = (recOk ⟨s.key.n, s.key.t, s.key.c, s.ttl, ⟨d.toArray⟩⟩ && (Dt.lowD s.key.t d == d)) from rfl)
      have H1 := hide (fun W => HONE.out ⟨d.toArray⟩ W)
      have H2 := hide (fun W => HCHK.out ⟨d.toArray⟩ W hszb)
      have H3 := hide (fun W => HLOW.out ⟨d.toArray⟩ W hszb)
      rw [bl_of] at H3
      simp only [recV] at H1 H2
      unfold qnV at H1
      have HDL := hide (show ((⟨(Dt.lowD s.key.t d).toArray⟩ : ByteArray).toList == (⟨d.toArray⟩ : ByteArray).toList) = (Dt.lowD s.key.t d == d) by rw [toList_bl, toList_bl, bl_of, bl_of])
      generalize recOk ⟨s.key.n, s.key.t, s.key.c, s.ttl, ⟨d.toArray⟩⟩ = ok at *
      generalize (⟨(Dt.lowD s.key.t d).toArray⟩ : ByteArray) = ld at *
      generalize (Dt.lowD s.key.t d == d) = same at *
      clear HONE HCHK HLOW HD HF
      go_wp2_with (at_lookup; refine wpList_look 146 9 3 _ rfl _ _ rfl lawS Try.underlying146 Try.underlying3 zeroI sv P n f rfl Mp.out d rfl (keyS hsz) ?_)
      intro c _
      cases hin : (f d).isSome
      · obtain ⟨b0, b1, b2, b3, b4, _⟩ := B.out.five_cells
        go_wp2_with fail
        refine (H1.out _).mono ?_
        rintro e w4 ⟨rfl, k1⟩
        replace B := hide (B.out.keeps k1)
        replace Mp := hide (Mp.out.keeps k1)
        replace K := hide (K.out.trans k1)
        clear k1 b0 b1 b2 b3 b4 H1
        obtain ⟨b0, b1, b2, b3, b4, _⟩ := B.out.five_cells
        go_wp2_with fail
        refine (H2.out _).mono ?_
        rintro e w5 ⟨rfl, k1⟩
        replace B := hide (B.out.keeps k1)
        replace Mp := hide (Mp.out.keeps k1)
        replace K := hide (K.out.trans k1)
        clear k1 b0 b1 b2 b3 b4 H2
        cases ok
        · have HE : Hid (R = false) := by rw [Hid, HO2.out, HS2.out (by rw [HOK.out]; rfl)]; rfl
          go_wp2
          go_ret
          exact ⟨ret_bool HE.out.symm, K.out⟩
        obtain ⟨b0, b1, b2, b3, b4, _⟩ := B.out.five_cells
        go_wp2_with fail
        refine (H3.out _).mono ?_
        rintro e w6 ⟨rfl, k1⟩
        replace B := hide (B.out.keeps k1)
        replace Mp := hide (Mp.out.keeps k1)
        replace K := hide (K.out.trans k1)
        clear k1 b0 b1 b2 b3 b4 H3
        have HDD := hide (show (⟨d.toArray⟩ : ByteArray).toList = d by rw [toList_bl, bl_of])
        cases hsm : (ld.toList == (⟨d.toArray⟩ : ByteArray).toList)
        · have hsm2 : (ld.toList == d) = false := by rw [← hsm, HDD.out]
          have HE : Hid (R = false) := by rw [Hid, HO2.out, HS2.out (by rw [HOK.out, ← HDL.out, hsm]; rfl)]; rfl
          go_wp2
          go_ret
          exact ⟨ret_bool HE.out.symm, K.out⟩
        have hsm2 : (ld.toList == d) = true := by rw [← hsm, HDD.out]
        have HA2 := hide (HS1.out (by rw [HOK.out, ← HDL.out, hsm]; rfl))
        have hnot : d ∉ s.ds.take j := fun h => by have := (HI.out d).2 h; rw [hin] at this; cases this
        have HND2 := hide (HS3.out hnot)
        have hn2 : n < maxLen := by omega
        go_wp2_with (at_mapUpdate; refine wpList_put 146 9 3 _ rfl _ _ _ rfl lawS Try.underlying146 Try.underlying3 sv sv_inj P n f rfl Mp.out hn2 d rfl (keyS hsz) (j : Int) rfl ?c0 ?_)
        case c0 => unfold maxLen at f2; omega
        intro w7 Mp7 hg7
        have f2' := f2
        unfold maxLen at f2'
        have B7 := hide (show Blk w7 G _ _ from (hg7.block G B.out.lt (by simp; omega)).trans B.out)
        have K7 := hide (show Keeps w w7 from Below.grown K.out hg7 K.out.size (fun k hk => by cases hk; exact hwle))
        have HI7 : Hid (∀ y, ((fun y => if y = d then some (j : Int) else f y) y).isSome = true ↔ y ∈ s.ds.take (j + 1)) := fun y => by
          rw [HTK.out, List.mem_append, List.mem_singleton, ← HI.out y]
          by_cases hy : y = d
          · simp [hy]
          · simp [hy]
        go_wp2
        go_roundw
        case rel => exact ⟨_, _, _, _, _, _, ⟨j + 1, n + 1, _, by omega, by omega, by go_num, HA2.out, HND2.out, Mp7, HI7.out, B7.out, K7.out⟩, rfl, rfl, rfl, rfl, rfl, rfl⟩
        case measure => simp [intOf]; omega
      · have HE : Hid (R = false) := by
          have : decide s.ds.Nodup = false := decide_eq_false (HS4.out ((HI.out d).1 hin))
          rw [Hid, HO2.out, this]; simp
        go_wp2
        go_ret
        exact ⟨ret_bool HE.out.symm, K.out⟩
    · obtain rfl : j = s.ds.length := by omega
      rw [List.take_length] at HA HND
      have HE : Hid (R = true) := by rw [Hid, HO2.out, HA.out, decide_eq_true HND.out]; rfl
      go_wp2
      go_ret
      exact ⟨ret_bool HE.out.symm, K.out⟩
end Go.Proofs.Ytdlaepfnogmebaa
