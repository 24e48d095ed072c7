/- MsgHead answers true, for every input: the walk. -/
import Derived.Test.YtpnjmgcfdbobeaaMsgH
import Derived.Deep.RegionHeld3
import Derived.Deep.RegionWith
import Derived.Deep.DeepCutAuto
namespace Go.Proofs.Ytpnjmgcfdbobeaa
open Go.RowKit

/-- A message that was decoded, and laid into a variable. -/
def HeadMid (W : World) (D : Ms) (p e : Value) (wx : World) : Prop :=
  ∃ G aq kq aa ka an kn ar kr, p = .pointer (some ⟨G, 0, none⟩) ∧ e = .int .i64 0 ∧ W.heap.size ≤ G ∧ Blk wx G #[.int .i64 D.id, .int .i64 D.bits, .slice aq D.qs.length kq, .slice aa D.an.length ka, .slice an D.ns.length kn, .slice ar D.ar.length kr] 26 ∧
    MsAt wx (.agg #[.int .i64 D.id, .int .i64 D.bits, .slice aq D.qs.length kq, .slice aa D.an.length ka, .slice an D.ns.length kn, .slice ar D.ar.length kr]) D ∧ Keeps W wx

theorem no_str {k : Nat} {s : ByteArray} (h : (#[.int .i64 0, .int .i64 0, .slice none 0 0, .slice none 0 0, .slice none 0 0, .slice none 0 0] : Array Value)[k]? = some (.string s)) : False := by
  rcases k with _ | _ | _ | _ | _ | _ | k <;> simp at h
theorem row_six {w : World} {v : Value} {c : Nat} {rows : List (List Value)} (h : ReadRow w v c rows) (hc : 0 < c) (hs : ∀ r ∈ rows, ∃ s, r[0]? = some (.string s)) {G : Nat} {ty : TypeId} (hB : Blk w G #[.int .i64 0, .int .i64 0, .slice none 0 0, .slice none 0 0, .slice none 0 0, .slice none 0 0] ty) (p q r s t u : Value) :
    ReadRow ((((((w.setCell ⟨G, 0, none⟩ p).setCell ⟨G, 1, none⟩ q).setCell ⟨G, 2, none⟩ r).setCell ⟨G, 3, none⟩ s).setCell ⟨G, 4, none⟩ t).setCell ⟨G, 5, none⟩ u) v c rows := by
  by_cases hp : 0 < rows.length
  · refine h.six ?_ p q r s t u
    obtain ⟨a, cap, rfl, h2, h3⟩ := h
    obtain ⟨b, off, rfl, hb, hcell⟩ := h3 hp
    intro b' hb' e
    have hbe : b = b' := by simpa [Value.ownBlock] using hb'
    subst hbe
    subst e
    have h0 := hcell 0 hp 0 hc
    obtain ⟨x, hx⟩ := hs rows[0] (List.getElem_mem hp)
    rw [hx, hB.cell] at h0
    exact no_str h0
  · have : rows = [] := List.length_eq_zero_iff.1 (by omega)
    subst this
    obtain ⟨a, cap, rfl, h2, _⟩ := h
    exact ReadRow.nil
theorem row_set0 {w : World} {v : Value} {c : Nat} {rows : List (List Value)} (h : ReadRow w v c rows) (hc : 0 < c) (hs : ∀ r ∈ rows, ∃ s, r[0]? = some (.string s)) {G : Nat} {cs : Array Value} {ty : TypeId} (hB : Blk w G cs ty) (hn : ∀ (k : Nat) (s : ByteArray), ¬ cs[k]? = some (.string s)) (i : Nat) (u : Value) :
    ReadRow (w.setCell ⟨G, i, none⟩ u) v c rows := by
  by_cases hp : 0 < rows.length
  · refine h.other ?_ i u
    obtain ⟨a, cap, rfl, h2, h3⟩ := h
    obtain ⟨b, off, rfl, hb, hcell⟩ := h3 hp
    intro b' hb' e
    have hbe : b = b' := by simpa [Value.ownBlock] using hb'
    subst hbe
    subst e
    have h0 := hcell 0 hp 0 hc
    obtain ⟨x, hx⟩ := hs rows[0] (List.getElem_mem hp)
    rw [hx, hB.cell] at h0
    exact hn _ _ h0
  · have : rows = [] := List.length_eq_zero_iff.1 (by omega)
    subst this
    obtain ⟨a, cap, rfl, h2, _⟩ := h
    exact ReadRow.nil
theorem six_no {a b c d e f : Value} (h : ∀ s, ¬ a = .string s ∧ ¬ b = .string s ∧ ¬ c = .string s ∧ ¬ d = .string s ∧ ¬ e = .string s ∧ ¬ f = .string s) (k : Nat) (s : ByteArray) : ¬ (#[a, b, c, d, e, f] : Array Value)[k]? = some (.string s) := by
  obtain ⟨h0, h1, h2, h3, h4, h5⟩ := h s
  rcases k with _ | _ | _ | _ | _ | _ | k <;> simp [h0, h1, h2, h3, h4, h5]
theorem mid_new {W w5 : World} {D : Ms} {aq aa an ar : Option Addr} {kq ka kn kr : Nat} (K : Keeps W w5) (M : MsAt w5 (.agg #[.int .i64 D.id, .int .i64 D.bits, .slice aq D.qs.length kq, .slice aa D.an.length ka, .slice an D.ns.length kn, .slice ar D.ar.length kr]) D) :
    HeadMid W D (.pointer (some ⟨w5.heap.size, 0, none⟩)) (.int .i64 0) (w5.alloc (.cells #[.int .i64 D.id, .int .i64 D.bits, .slice aq D.qs.length kq, .slice aa D.an.length ka, .slice an D.ns.length kn, .slice ar D.ar.length kr] 26)) :=
  ⟨_, aq, kq, aa, ka, an, kn, ar, kr, rfl, rfl, K.size, Blk.made _ _ _, M.keeps ((Keeps.refl _).alloc _), K.alloc _⟩
theorem mid_old {W w5 : World} {D : Ms} {G : Nat} {aq aa an ar : Option Addr} {kq ka kn kr : Nat} (K : Keeps W w5) (M : MsAt w5 (.agg #[.int .i64 D.id, .int .i64 D.bits, .slice aq D.qs.length kq, .slice aa D.an.length ka, .slice an D.ns.length kn, .slice ar D.ar.length kr]) D) (B : Blk w5 G #[.int .i64 0, .int .i64 0, .slice none 0 0, .slice none 0 0, .slice none 0 0, .slice none 0 0] 26) (hG : W.heap.size ≤ G) :
    HeadMid W D (.pointer (some ⟨G, 0, none⟩)) (.int .i64 0) ((((((w5.setCell ⟨G, 0, none⟩ (.int .i64 D.id)).setCell ⟨G, 1, none⟩ (.int .i64 D.bits)).setCell ⟨G, 2, none⟩ (.slice aq D.qs.length kq)).setCell ⟨G, 3, none⟩ (.slice aa D.an.length ka)).setCell ⟨G, 4, none⟩ (.slice an D.ns.length kn)).setCell ⟨G, 5, none⟩ (.slice ar D.ar.length kr)) := by
  refine ⟨G, aq, kq, aa, ka, an, kn, ar, kr, rfl, rfl, hG, ?_, ?_, K.six G hG _ _ _ _ _ _⟩
  · have h := (((((B.set 0 (.int .i64 D.id)).set 1 (.int .i64 D.bits)).set 2 (.slice aq D.qs.length kq)).set 3 (.slice aa D.an.length ka)).set 4 (.slice an D.ns.length kn)).set 5 (.slice ar D.ar.length kr)
    simpa using h
  · obtain ⟨vq, va, vn, vr, he, h1, h2, h3, h4⟩ := M
    refine ⟨vq, va, vn, vr, he, row_six h1 (by decide) ?_ B _ _ _ _ _ _, row_six h2 (by decide) ?_ B _ _ _ _ _ _, row_six h3 (by decide) ?_ B _ _ _ _ _ _, row_six h4 (by decide) ?_ B _ _ _ _ _ _⟩
    all_goals
      intro r hr
      rw [List.mem_map] at hr
      obtain ⟨x, _, rfl⟩ := hr
      exact ⟨x.n, rfl⟩

set_option maxHeartbeats 8000000 in
set_option maxRecDepth 100000 in
theorem MsgHead_walk (v : Value) (m : Ms) (id : Int) (w : World) (hM : MsAt w v m) (hf : MsFine m) (_ : MsIn m) (hz : m.qs.length ≤ reachBytes ∧ m.an.length ≤ reachBytes ∧ m.ns.length ≤ reachBytes ∧ m.ar.length ≤ reachBytes) (_ : -9223372036854775808 ≤ id ∧ id ≤ 9223372036854775807) :
    Calls Try.prog 8 #[v, .int .i64 id] w fun e w' => e = .returned (.bool true) ∧ Keeps w w' := by
  have hsum : m.qs.length + m.an.length + m.ns.length + m.ar.length ≤ 9223372036854775807 := by
    have : reachBytes ≤ 140737488355328 := by decide
    omega
  obtain ⟨aq, kq, aa, ka, an, kn, ar, kr, rfl⟩ := hM.form
  have HS := hide (fun W (k : Keeps w W) => Small_any _ m W (hM.keeps k) hf hsum)
  have HE := hide (fun W (k : Keeps w W) => Encode_any _ m W (hM.keeps k) hf)
  have B := hide (Blk.made w #[.int .i64 m.id, .int .i64 m.bits, .slice aq m.qs.length kq, .slice aa m.an.length ka, .slice an m.ns.length kn, .slice ar m.ar.length kr] 26)
  have K := hide ((Keeps.refl w).alloc (.cells #[.int .i64 m.id, .int .i64 m.bits, .slice aq m.qs.length kq, .slice aa m.an.length ka, .slice an m.ns.length kn, .slice ar m.ar.length kr] 26))
  clear hM hz hsum
  go_enter Try.func8, Try.ntmps8
  go_wp2_with fail
  generalize w.alloc (.cells #[.int .i64 m.id, .int .i64 m.bits, .slice aq m.qs.length kq, .slice aa m.an.length ka, .slice an m.ns.length kn, .slice ar m.ar.length kr] 26) = W at *
  generalize w.heap.size = M at *
  refine (HS.out _ K.out).mono ?_
  rintro e w1 ⟨rfl, k1⟩
  replace B := hide (B.out.keeps k1)
  replace K := hide (K.out.trans k1)
  clear k1 HS
  cases hsm : smallM m
  · go_wp2_with fail
    refine (live8_any _).mono ?_
    rintro e wz ⟨rfl, kz⟩
    go_wp2
    go_ret
    exact ⟨rfl, K.out.trans kz⟩
  obtain ⟨y0, y1, y2, y3, y4, y5, y6⟩ := B.out.six6
  go_wp2_with fail
  refine (HE.out _ K.out).mono ?_
  rintro e w2 ⟨rfl, k1⟩
  replace B := hide (B.out.keeps k1)
  replace K := hide (K.out.trans k1)
  clear k1 HE y0 y1 y2 y3 y4 y5 y6
  by_cases he : (encM m).2 = 0
  · obtain ⟨hok, hfit, hem⟩ := enc_zero he
    rw [hem]
    clear he hem
    obtain ⟨h12, hhd⟩ := head_enc hok hfit
    have hsz : (encT m).size ≤ maxLen := by unfold maxLen; omega
    have HH := hide (fun W => Head_any (encT m) W hsz)
    rw [hhd] at HH
    have HD := hide (fun W => Decode_any (encT m) W hsz)
    have hD := dec_same hok hfit
    rw [hD] at HD
    have HM2 := hide (fun (i : Int) (hi : num2 i = true) (s : ByteArray) h => dec_msg m hok hfit i hi s h)
    have hfit2 : (encT m).size ≤ 65535 := by omega
    clear hhd hD hfit
    obtain ⟨D, hDe⟩ : ∃ D : Ms, D = ⟨m.id, m.bits, m.qs, m.an.map (relR (baseS m)), m.ns.map (relR (baseS m)), m.ar.map (relR (baseS m))⟩ := ⟨_, rfl⟩
    rw [← hDe] at HD
    have HDe := hide hDe
    clear hDe
    generalize encT m = s at *
    go_wp2_with fail
    refine (HH.out _).mono ?_
    rintro e w3 ⟨rfl, k1⟩
    replace B := hide (B.out.keeps k1)
    replace K := hide (K.out.trans k1)
    clear k1 HH
    obtain ⟨y0, y1, y2, y3, y4, y5, y6⟩ := B.out.six6
    have h12' : ¬ (s.size : Int) < 12 := by omega
    by_cases hc0 : id < 0
    · go_wp2_with fail
      refine (live8_any _).mono ?_
      rintro e wz ⟨rfl, kz⟩
      go_wp2
      go_ret
      exact ⟨rfl, K.out.trans kz⟩
    by_cases hc1 : (65535 : Int) < id
    · go_wp2_with fail
      refine (live8_any _).mono ?_
      rintro e wz ⟨rfl, kz⟩
      go_wp2
      go_ret
      exact ⟨rfl, K.out.trans kz⟩
    go_wp2_with fail
    refine (HD.out _).mono ?_
    intro e w4 hE
    obtain ⟨bq, lq, ba, la, bn, ln, br, lr, rfl, Mx, k1⟩ := live_dec hE rfl
    clear hE HD y0 y1 y2 y3 y4 y5 y6
    replace B := hide ((B.out.keeps k1).alloc (.cells #[.int .i64 D.id, .int .i64 D.bits, .slice bq D.qs.length lq, .slice ba D.an.length la, .slice bn D.ns.length ln, .slice br D.ar.length lr] 26))
    have Bx := hide (Blk.made w4 #[.int .i64 D.id, .int .i64 D.bits, .slice bq D.qs.length lq, .slice ba D.an.length la, .slice bn D.ns.length ln, .slice br D.ar.length lr] 26)
    replace K := hide ((K.out.trans k1).alloc (.cells #[.int .i64 D.id, .int .i64 D.bits, .slice bq D.qs.length lq, .slice ba D.an.length la, .slice bn D.ns.length ln, .slice br D.ar.length lr] 26))
    replace Mx := hide (Mx.keeps ((Keeps.refl w4).alloc (.cells #[.int .i64 D.id, .int .i64 D.bits, .slice bq D.qs.length lq, .slice ba D.an.length la, .slice bn D.ns.length ln, .slice br D.ar.length lr] 26)))
    clear k1
    go_wp2_with fail
    generalize w4.alloc (.cells #[.int .i64 D.id, .int .i64 D.bits, .slice bq D.qs.length lq, .slice ba D.an.length la, .slice bn D.ns.length ln, .slice br D.ar.length lr] 26) = W4 at *
    generalize w4.heap.size = G4 at *
    have hi0 : 0 ≤ id := by omega
    have hi1 : id ≤ 65535 := by omega
    have hn2 : num2 id = true := by simp only [num2, decide_eq_true_eq]; omega
    have hpo : Oct.putOk id (2 : Nat) = true := num_ok' hn2
    have ea : id.tdiv 256 = id / 256 := Int.tdiv_eq_ediv_of_nonneg hi0
    have eb : id.tmod 256 = id % 256 := Int.tmod_eq_emod_of_nonneg hi0
    have wi : IntKind.i64.wrap (id / 256) = id / 256 := by rw [IntKind.wrap_i64]; omega
    have wa : IntKind.u8.wrap (id / 256) = id / 256 := by rw [IntKind.wrap_u8]; omega
    have wb : IntKind.u8.wrap (id % 256) = id % 256 := by rw [IntKind.wrap_u8]; omega
    have hcv : (convert 40 9 (.slice (some ⟨W4.heap.size, 0, none⟩) 2 2)).run Try.prog (W4.alloc (.cells #[.int .u8 (id / 256), .int .u8 (id % 256)] 5)).drew = .ok (.string ⟨(Oct.beL id.toNat 2).toArray⟩) (W4.alloc (.cells #[.int .u8 (id / 256), .int .u8 (id % 256)] 5)).drew :=
      conv_new (P := Try.prog) 40 9 5 Try.underlying40 Try.underlying5 Try.underlying9 #[.int .u8 (id / 256), .int .u8 (id % 256)] (Oct.beL id.toNat 2) 2 2 (Oct.beL_length _ _) (Oct.beL_2 id hi0 (by omega)).symm W4.drew
    have HCV2 : Hid ((convert 40 9 (.slice (some ⟨W4.heap.size, 0, none⟩) 2 2)).run Try.prog ((W4.alloc (.cells #[.int .u8 (id / 256), .int .u8 (id % 256)] 5)).alloc (.cells #[.int .i64 0, .int .i64 0, .slice none 0 0, .slice none 0 0, .slice none 0 0, .slice none 0 0] 26)).drew = .ok (.string ⟨(Oct.beL id.toNat 2).toArray⟩) ((W4.alloc (.cells #[.int .u8 (id / 256), .int .u8 (id % 256)] 5)).alloc (.cells #[.int .i64 0, .int .i64 0, .slice none 0 0, .slice none 0 0, .slice none 0 0, .slice none 0 0] 26)).drew) := by
      refine run_convert_bytes_back _ 40 9 5 _ 2 (Oct.beL id.toNat 2) Try.underlying40 Try.underlying5 Try.underlying9 ?_
      intro j hj
      have hbl := Oct.beL_2 id hi0 (by omega)
      have hk := (Blk.made W4 #[.int .u8 (id / 256), .int .u8 (id % 256)] 5).alloc (.cells #[.int .i64 0, .int .i64 0, .slice none 0 0, .slice none 0 0, .slice none 0 0, .slice none 0 0] 26)
      rw [add_none, Nat.zero_add]
      refine (hk.cell j).trans ?_
      have e : (#[Value.int .u8 (id / 256), Value.int .u8 (id % 256)] : Array Value)[j]? = (#[Value.int .u8 (id / 256), Value.int .u8 (id % 256)] : Array Value).toList[j]? := by simp
      rw [e, ← hbl]
      simp [hj]
    have HCV3 : Hid ((convert 40 9 (.slice (some ⟨W4.heap.size + 1, 0, none⟩) 2 2)).run Try.prog ((W4.alloc (.cells #[.int .i64 0, .int .i64 0, .slice none 0 0, .slice none 0 0, .slice none 0 0, .slice none 0 0] 26)).alloc (.cells #[.int .u8 (id / 256), .int .u8 (id % 256)] 5)).drew = .ok (.string ⟨(Oct.beL id.toNat 2).toArray⟩) ((W4.alloc (.cells #[.int .i64 0, .int .i64 0, .slice none 0 0, .slice none 0 0, .slice none 0 0, .slice none 0 0] 26)).alloc (.cells #[.int .u8 (id / 256), .int .u8 (id % 256)] 5)).drew) := by
      have h := conv_new (P := Try.prog) 40 9 5 Try.underlying40 Try.underlying5 Try.underlying9 #[.int .u8 (id / 256), .int .u8 (id % 256)] (Oct.beL id.toNat 2) 2 2 (Oct.beL_length _ _) (Oct.beL_2 id hi0 (by omega)).symm (W4.alloc (.cells #[.int .i64 0, .int .i64 0, .slice none 0 0, .slice none 0 0, .slice none 0 0, .slice none 0 0] 26)).drew
      have e : (W4.alloc (.cells #[.int .i64 0, .int .i64 0, .slice none 0 0, .slice none 0 0, .slice none 0 0, .slice none 0 0] 26)).drew.heap.size = W4.heap.size + 1 := size_alloc _ _
      rw [e] at h
      exact h
    have r1 : ∀ w, (Instr.slice 9 (.string s) (some (.int .i64 2)) none none).run Try.prog w = .ok (.string (s.extract 2 s.size)) w := by
      intro w; rw [run_slice_string_from_if w _ s .i64 _ Try.underlying9, if_pos (by omega)]; rfl
    have hbs : bl ((⟨(Oct.beL id.toNat 2).toArray⟩ : ByteArray) ++ s.extract 2 s.size) = bl (Oct.putS id (2 : Nat)) ++ (bl s).drop 2 := by
      rw [bl_append, Oct.putS_yes _ _ hpo]
      congr 1
      rw [bl_extract]
      exact List.take_of_length_le (by rw [List.length_drop, bl_length]; omega)
    have hX := HM2.out id hn2 _ hbs
    have z1 : (⟨(Oct.beL id.toNat 2).toArray⟩ : ByteArray).size = 2 := by
      show (Oct.beL id.toNat 2).toArray.size = 2
      simp [Oct.beL_length]
    have z2 : (s.extract 2 s.size).size ≤ 65535 := by rw [ByteArray.size_extract]; omega
    generalize (⟨(Oct.beL id.toNat 2).toArray⟩ : ByteArray) = T at *
    generalize s.extract 2 s.size = U at *
    have r2 : ∀ w, (Op.stringOp .add T U).run Try.prog w = .ok (.string (T ++ U)) w := fun w => run_string_add_sum w _ _ (by omega)
    have z3 : (T ++ U).size ≤ maxLen := by rw [ByteArray.size_append]; unfold maxLen; omega
    have HD2 := hide (fun W => Decode_any (T ++ U) W z3)
    rw [hX] at HD2
    generalize T ++ U = S at *
    obtain ⟨D2, hD2⟩ : ∃ D : Ms, D = ⟨id, m.bits, m.qs, m.an.map (relR (baseS m)), m.ns.map (relR (baseS m)), m.ar.map (relR (baseS m))⟩ := ⟨_, rfl⟩
    rw [← hD2] at HD2
    replace hD2 := hide hD2
    clear hX hbs z1 z2 z3 hpo hn2 HM2
    have hcv2 : (convert 40 9 (.slice (some ⟨W4.heap.size, 0, none⟩) 2 2)).run Try.prog ((W4.alloc (.cells #[.int .u8 (id / 256), .int .u8 (id % 256)] 5)).alloc (.cells #[.int .i64 0, .int .i64 0, .slice none 0 0, .slice none 0 0, .slice none 0 0, .slice none 0 0] 26)).drew = .ok (.string T) ((W4.alloc (.cells #[.int .u8 (id / 256), .int .u8 (id % 256)] 5)).alloc (.cells #[.int .i64 0, .int .i64 0, .slice none 0 0, .slice none 0 0, .slice none 0 0, .slice none 0 0] 26)).drew := HCV2.out
    have hcv3 : (convert 40 9 (.slice (some ⟨W4.heap.size + 1, 0, none⟩) 2 2)).run Try.prog ((W4.alloc (.cells #[.int .i64 0, .int .i64 0, .slice none 0 0, .slice none 0 0, .slice none 0 0, .slice none 0 0] 26)).alloc (.cells #[.int .u8 (id / 256), .int .u8 (id % 256)] 5)).drew = .ok (.string T) ((W4.alloc (.cells #[.int .i64 0, .int .i64 0, .slice none 0 0, .slice none 0 0, .slice none 0 0, .slice none 0 0] 26)).alloc (.cells #[.int .u8 (id / 256), .int .u8 (id % 256)] 5)).drew := HCV3.out
    have BD : Hid (Blk ((W4.alloc (.cells #[.int .i64 0, .int .i64 0, .slice none 0 0, .slice none 0 0, .slice none 0 0, .slice none 0 0] 26)).alloc (.cells #[.int .u8 (id / 256), .int .u8 (id % 256)] 5)).drew W4.heap.size #[.int .i64 0, .int .i64 0, .slice none 0 0, .slice none 0 0, .slice none 0 0, .slice none 0 0] 26) := ((Blk.made W4 #[.int .i64 0, .int .i64 0, .slice none 0 0, .slice none 0 0, .slice none 0 0, .slice none 0 0] 26).alloc (.cells #[.int .u8 (id / 256), .int .u8 (id % 256)] 5)).drew
    have BB : Hid (Blk ((W4.alloc (.cells #[.int .u8 (id / 256), .int .u8 (id % 256)] 5)).alloc (.cells #[.int .i64 0, .int .i64 0, .slice none 0 0, .slice none 0 0, .slice none 0 0, .slice none 0 0] 26)).drew (W4.heap.size + 1) #[.int .i64 0, .int .i64 0, .slice none 0 0, .slice none 0 0, .slice none 0 0, .slice none 0 0] 26) := by
      have h := Blk.made (W4.alloc (.cells #[.int .u8 (id / 256), .int .u8 (id % 256)] 5)) #[.int .i64 0, .int .i64 0, .slice none 0 0, .slice none 0 0, .slice none 0 0, .slice none 0 0] 26
      rw [size_alloc] at h
      exact h.drew
    have KD : Hid (Keeps W4 ((W4.alloc (.cells #[.int .i64 0, .int .i64 0, .slice none 0 0, .slice none 0 0, .slice none 0 0, .slice none 0 0] 26)).alloc (.cells #[.int .u8 (id / 256), .int .u8 (id % 256)] 5)).drew) := (((Keeps.refl W4).alloc (.cells #[.int .i64 0, .int .i64 0, .slice none 0 0, .slice none 0 0, .slice none 0 0, .slice none 0 0] 26)).alloc (.cells #[.int .u8 (id / 256), .int .u8 (id % 256)] 5)).drew
    have KB : Hid (Keeps W4 ((W4.alloc (.cells #[.int .u8 (id / 256), .int .u8 (id % 256)] 5)).alloc (.cells #[.int .i64 0, .int .i64 0, .slice none 0 0, .slice none 0 0, .slice none 0 0, .slice none 0 0] 26)).drew) := (((Keeps.refl W4).alloc (.cells #[.int .u8 (id / 256), .int .u8 (id % 256)] 5)).alloc (.cells #[.int .i64 0, .int .i64 0, .slice none 0 0, .slice none 0 0, .slice none 0 0, .slice none 0 0] 26)).drew
    have KA : Hid (Keeps W4 (W4.alloc (.cells #[.int .u8 (id / 256), .int .u8 (id % 256)] 5)).drew) := ((Keeps.refl W4).alloc (.cells #[.int .u8 (id / 256), .int .u8 (id % 256)] 5)).drew
    go_cut [12, 13] (fun p e wx => HeadMid W4 D2 p e wx)
    case first =>
      go_region_with (go_at_call 10; refine (HD2.out _).mono ?_; intro e w5 hE; obtain ⟨cq, mq, ca, ma, cn, mn, cr, mr, rfl, M5, k5⟩ := live_dec hE rfl; clear hE; first | (have BZ := hide (BD.out.keeps k5); have KZ := hide (KD.out.trans k5); obtain ⟨⟨q0, q1, q2, q3, q4, q5⟩, ⟨f0, f1, f2, f3, f4, f5⟩, glt⟩ := BZ.out.six) | (have BZ := hide (BB.out.keeps k5); have KZ := hide (KB.out.trans k5); obtain ⟨⟨q0, q1, q2, q3, q4, q5⟩, ⟨f0, f1, f2, f3, f4, f5⟩, glt⟩ := BZ.out.six) | (have KZ := hide (KA.out.trans k5)))
      · clear hcv hcv2 hcv3
        go_wp2_with fail
        go_meet
        exact mid_new KZ.out M5
      · clear hcv hcv2 hcv3
        go_wp2_with fail
        go_meet
        exact mid_old KZ.out M5 BZ.out (Nat.le_succ _)
      · clear hcv hcv2 hcv3
        go_wp2_with fail
        go_meet
        exact mid_old KZ.out M5 BZ.out (Nat.le_succ _)
      · clear hcv hcv2 hcv3
        go_wp2_with fail
        go_meet
        exact mid_old KZ.out M5 BZ.out (Nat.le_refl _)
    case rest =>
      obtain ⟨G5, cq, mq, ca, ma, cn, mn, cr, mr, rfl, rfl, hG5, B5, M5, k5⟩ := hcut
      clear hcv hcv2 hcv3 HCV2 HCV3 BD BB KD KB KA
      have hsid : D2.id = id := by rw [hD2.out]
      rw [hsid] at B5 M5
      have B7 : Blk (wc.setCell ⟨G5, 0, none⟩ (.int .i64 m.id)) G5 #[.int .i64 m.id, .int .i64 D2.bits, .slice cq D2.qs.length mq, .slice ca D2.an.length ma, .slice cn D2.ns.length mn, .slice cr D2.ar.length mr] 26 := by simpa using B5.set 0 (.int .i64 m.id)
      have M7 : MsAt (wc.setCell ⟨G5, 0, none⟩ (.int .i64 m.id)) (.agg #[.int .i64 m.id, .int .i64 D2.bits, .slice cq D2.qs.length mq, .slice ca D2.an.length ma, .slice cn D2.ns.length mn, .slice cr D2.ar.length mr]) D := by
        have hno := six_no (a := .int .i64 id) (b := .int .i64 D2.bits) (c := .slice cq D2.qs.length mq) (d := .slice ca D2.an.length ma) (e := .slice cn D2.ns.length mn) (f := .slice cr D2.ar.length mr) (fun s => by simp)
        obtain ⟨_, _, h1, h2, h3, h4⟩ := M5.rows
        have hst : ∀ (l : List Qn), ∀ r ∈ l.map qnL, ∃ s, r[0]? = some (.string s) := by
          intro l r hr; rw [List.mem_map] at hr; obtain ⟨x, _, rfl⟩ := hr; exact ⟨x.n, rfl⟩
        have hsr : ∀ (l : List Rec), ∀ r ∈ l.map recL8, ∃ s, r[0]? = some (.string s) := by
          intro l r hr; rw [List.mem_map] at hr; obtain ⟨x, _, rfl⟩ := hr; exact ⟨x.n, rfl⟩
        have e1 : D.qs = D2.qs := by rw [HDe.out, hD2.out]
        have e2 : D.an = D2.an := by rw [HDe.out, hD2.out]
        have e3 : D.ns = D2.ns := by rw [HDe.out, hD2.out]
        have e4 : D.ar = D2.ar := by rw [HDe.out, hD2.out]
        refine ⟨_, _, _, _, ?_, by rw [e1]; exact row_set0 h1 (by decide) (hst _) B5 hno 0 _, by rw [e2]; exact row_set0 h2 (by decide) (hsr _) B5 hno 0 _, by rw [e3]; exact row_set0 h3 (by decide) (hsr _) B5 hno 0 _, by rw [e4]; exact row_set0 h4 (by decide) (hsr _) B5 hno 0 _⟩
        rw [HDe.out, hD2.out]
      have hGx : G4 < W4.heap.size := Bx.out.lt
      have hGm : M < W4.heap.size := B.out.lt
      have X7 := hide ((Bx.out.keeps k5).other (a := ⟨G5, 0, none⟩) (by simp; omega) (.int .i64 m.id))
      have K7 := hide (K.out.trans (Below.setCell k5 hG5 (p := ⟨G5, 0, none⟩) (.int .i64 m.id)))
      have N7 : MsAt (wc.setCell ⟨G5, 0, none⟩ (.int .i64 m.id)) _ D := Mx.out.keeps (Below.setCell k5 hG5 (p := ⟨G5, 0, none⟩) (.int .i64 m.id))
      have ln : MsLens D := by
        rw [HDe.out]
        have h := hf.lens
        unfold MsLens at h ⊢
        simpa using h
      have HS := hide (Same_any _ _ D D _ M7 N7 ln ln)
      rw [decide_eq_true rfl] at HS
      replace B7 := hide B7
      obtain ⟨y0, y1, y2, y3, y4, y5, y6⟩ := (B.out.keeps k5).six6
      obtain ⟨⟨q0, q1, q2, q3, q4, q5⟩, ⟨f0, f1, f2, f3, f4, f5⟩, glt⟩ := B5.six
      clear M7 N7 M5 B5 Mx B Bx K HD2 k5
      go_upto_region 16 with fail
      generalize wc.setCell ⟨G5, 0, none⟩ (.int .i64 m.id) = W7 at *
      clear y0 y1 y2 y3 y4 y5 y6 q0 q1 q2 q3 q4 q5 f0 f1 f2 f3 f4 f5 glt
      obtain ⟨y0, y1, y2, y3, y4, y5, y6⟩ := B7.out.six6
      obtain ⟨x0, x1, x2, x3, x4, x5, x6⟩ := X7.out.six6
      go_wp2_with fail
      refine HS.out.mono ?_
      rintro e w8 ⟨rfl, k1⟩
      replace K7 := hide (K7.out.trans k1)
      clear k1
      go_wp2_with fail
      refine (live8_any _).mono ?_
      rintro e wz ⟨rfl, kz⟩
      go_wp2
      go_ret
      exact ⟨rfl, K7.out.trans kz⟩
  · have HH := hide (fun W => Head_any ⟨#[]⟩ W (small8 _ (by decide)))
    rw [head_none] at HH
    rcases enc_bad he with hem | ⟨hem, _⟩
    · rw [hem]
      clear he hem
      go_wp2_with fail
      refine (HH.out _).mono ?_
      rintro e w3 ⟨rfl, k1⟩
      replace K := hide (K.out.trans k1)
      clear k1
      go_wp2_with fail
      refine (live8_any _).mono ?_
      rintro e wz ⟨rfl, kz⟩
      go_wp2
      go_ret
      exact ⟨rfl, K.out.trans kz⟩
    · rw [hem]
      clear he hem
      go_wp2_with fail
      refine (HH.out _).mono ?_
      rintro e w3 ⟨rfl, k1⟩
      replace K := hide (K.out.trans k1)
      clear k1
      go_wp2_with fail
      refine (live8_any _).mono ?_
      rintro e wz ⟨rfl, kz⟩
      go_wp2
      go_ret
      exact ⟨rfl, K.out.trans kz⟩
end Go.Proofs.Ytpnjmgcfdbobeaa
