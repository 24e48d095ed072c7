/- MsgCut answers true, for every input: the walk. -/
import Derived.Test.YtmhipcphgbcggaaLMsgBack
import Derived.Test.YtmhipcphgbcggaaMsgM2
namespace Go.Proofs.Ytmhipcphgbcggaa
open Go.RowKit

theorem cut_parts (s : ByteArray) (n : Nat) (h : n < s.size) : ∃ t, t ≠ [] ∧ bl s = bl (s.extract 0 n) ++ t ∧ (s.extract 0 n).size = n := by
  refine ⟨(bl s).drop n, ?_, ?_, by simp [ByteArray.size_extract]; omega⟩
  · intro h0
    have := congrArg List.length h0
    rw [List.length_drop, bl_length, List.length_nil] at this
    omega
  · have : bl (s.extract 0 n) = (bl s).take n := by rw [bl_extract]; simp
    rw [this, List.take_append_drop]
theorem cut_none {m : Ms} (hok : msOk m = true) (hfit : ¬ 65535 < (encT m).size) (n : Nat) (h : n < (encT m).size) : ∃ e, decM ((encT m).extract 0 n) = (noMs, e) ∧ ¬ e = 0 := by
  obtain ⟨t, ht, hst, _⟩ := cut_parts (encT m) n h
  have he : ¬ (decM ((encT m).extract 0 n)).2 = 0 := by
    intro h0
    have := dec_longer hst ht (by omega) h0
    rw [dec_same hok hfit] at this
    have := congrArg Prod.snd this
    simp at this
  refine ⟨_, ?_, he⟩
  exact Prod.ext (dec_zero he) rfl
theorem more_left {m : Ms} (hok : msOk m = true) (hfit : ¬ 65535 < (encT m).size) (hs : (encT m).size ≤ 2000) : decM (encT m ++ ⟨#[0]⟩) = (noMs, 5) := by
  refine dec_longer (c := encT m) (t := [0]) (by rw [bl_append]; rfl) (by simp) ?_ (by rw [dec_same hok hfit])
  rw [ByteArray.size_append]
  have : (⟨#[0]⟩ : ByteArray).size = 1 := rfl
  omega

set_option maxHeartbeats 8000000 in
set_option maxRecDepth 100000 in
theorem MsgCut_walk (v : Value) (m : Ms) (cut : Int) (w : World) (hM : MsAt w v m) (hf : MsFine m) (_ : MsIn m) (hz : m.qs.length ≤ reachBytes ∧ m.an.length ≤ reachBytes ∧ m.ns.length ≤ reachBytes ∧ m.ar.length ≤ reachBytes) (_ : -9223372036854775808 ≤ cut ∧ cut ≤ 9223372036854775807) :
    Calls Try.prog 7 #[v, .int .i64 cut] w fun e w' => e = .returned (.bool true) ∧ Keeps w w' := by
  have hsum : m.qs.length + m.an.length + m.ns.length + m.ar.length ≤ 9223372036854775807 := by
    have : reachBytes ≤ 140737488355328 := by decide
    omega
  obtain ⟨aq, kq, aa, ka, an, kn, ar, kr, rfl⟩ := hM.form
  have HS := hide (fun W (k : Keeps w W) => Small_any _ m W (hM.keeps k) hf hsum)
  have HE := hide (fun W (k : Keeps w W) => Encode_any _ m W (hM.keeps k) hf)
  have B := hide (Blk.made w #[.int .i64 m.id, .int .i64 m.bits, .slice aq m.qs.length kq, .slice aa m.an.length ka, .slice an m.ns.length kn, .slice ar m.ar.length kr] 26)
  have K := hide ((Keeps.refl w).alloc (.cells #[.int .i64 m.id, .int .i64 m.bits, .slice aq m.qs.length kq, .slice aa m.an.length ka, .slice an m.ns.length kn, .slice ar m.ar.length kr] 26))
  clear hM hz hsum
  go_enter Try.func7, Try.ntmps7
  go_wp2_with fail
  generalize w.alloc (.cells #[.int .i64 m.id, .int .i64 m.bits, .slice aq m.qs.length kq, .slice aa m.an.length ka, .slice an m.ns.length kn, .slice ar m.ar.length kr] 26) = W at *
  generalize w.heap.size = M at *
  refine (HS.out _ K.out).mono ?_
  rintro e w1 ⟨rfl, k1⟩
  replace B := hide (B.out.keeps k1)
  replace K := hide (K.out.trans k1)
  clear k1 HS
  cases hsm : smallM m
  · go_wp2_with fail
    refine (live8_any _).mono ?_
    rintro e wz ⟨rfl, kz⟩
    go_wp2
    go_ret
    exact ⟨rfl, K.out.trans kz⟩
  obtain ⟨y0, y1, y2, y3, y4, y5, y6⟩ := B.out.six6
  go_wp2_with fail
  refine (HE.out _ K.out).mono ?_
  rintro e w2 ⟨rfl, k1⟩
  replace K := hide (K.out.trans k1)
  clear k1 HE y0 y1 y2 y3 y4 y5 y6 B
  by_cases he : (encM m).2 = 0
  · obtain ⟨hok, hfit, hem⟩ := enc_zero he
    rw [hem]
    clear he hem
    by_cases hbig : (2000 : Int) < ((encT m).size : Int)
    · clear hok hfit
      generalize encT m = s at *
      go_wp2_with fail
      refine (live8_any _).mono ?_
      rintro e wz ⟨rfl, kz⟩
      go_wp2
      go_ret
      exact ⟨rfl, K.out.trans kz⟩
    have HL := hide (more_left hok hfit (by omega))
    have HN := hide (fun n h => cut_none hok hfit n h)
    clear hok hfit
    generalize encT m = s at *
    have HD1 := hide (fun W => Decode_any (s ++ ⟨#[0]⟩) W (by rw [ByteArray.size_append]; have : (⟨#[0]⟩ : ByteArray).size = 1 := rfl; unfold maxLen; omega))
    have h1 : ∀ w, (Op.stringOp .add s ⟨#[0]⟩).run Try.prog w = .ok (.string (s ++ ⟨#[0]⟩)) w := fun w => run_string_add_sum w _ _ (by have : (⟨#[0]⟩ : ByteArray).size = 1 := rfl; omega)
    have HDn := hide (fun (n : Nat) (h : n < s.size) W => Decode_any (s.extract 0 n) W (by rw [(cut_parts s n h).choose_spec.2.2]; unfold maxLen; omega))
    go_wp2_with fail
    refine (HD1.out _).mono ?_
    intro e w3 hE
    obtain ⟨b1q, l1q, b1a, l1a, b1n, l1n, b1r, l1r, rfl, _, k1⟩ := live_decN hE HL.out
    clear hE HD1 h1
    replace K := hide ((K.out.trans k1).alloc (.cells #[.int .i64 0, .int .i64 0, .slice b1q 0 l1q, .slice b1a 0 l1a, .slice b1n 0 l1n, .slice b1r 0 l1r] 26))
    clear k1
    by_cases hc0 : cut < 0
    · go_wp2_with fail
      refine (live8_any _).mono ?_
      rintro e wz ⟨rfl, kz⟩
      go_wp2
      go_ret
      exact ⟨rfl, K.out.trans kz⟩
    by_cases hc1 : (s.size : Int) ≤ cut
    · go_wp2_with fail
      refine (live8_any _).mono ?_
      rintro e wz ⟨rfl, kz⟩
      go_wp2
      go_ret
      exact ⟨rfl, K.out.trans kz⟩
    obtain ⟨n, rfl⟩ := Int.eq_ofNat_of_zero_le (show 0 ≤ cut by omega)
    have hn : n < s.size := by omega
    obtain ⟨E, hE1, hE2⟩ := HN.out n hn
    have HX := hide hE1
    have hne : ((E : Int) != 0) = true := by rw [bne_iff_ne]; omega
    have r2 : ∀ w, (Instr.slice 9 (.string s) none (some (.int .i64 (n : Int))) none).run Try.prog w = .ok (.string (s.extract 0 n)) w := by
      intro w; rw [run_slice_string_to_if w _ s .i64 n Try.underlying9, if_pos (by omega), Int.toNat_natCast]
    clear hE1 hE2 HN HL
    have HD2 := hide (HDn.out n hn)
    generalize s.extract 0 n = c at *
    clear HDn
    go_wp2_with fail
    generalize w3.alloc (.cells #[.int .i64 0, .int .i64 0, .slice b1q 0 l1q, .slice b1a 0 l1a, .slice b1n 0 l1n, .slice b1r 0 l1r] 26) = W3 at *
    refine (HD2.out _).mono ?_
    intro e w4 hE
    obtain ⟨b2q, l2q, b2a, l2a, b2n, l2n, b2r, l2r, rfl, Mk, k1⟩ := live_decN hE HX.out
    clear hE HD2
    have kk := (Keeps.refl w4).alloc (.cells #[.int .i64 0, .int .i64 0, .slice b2q 0 l2q, .slice b2a 0 l2a, .slice b2n 0 l2n, .slice b2r 0 l2r] 26)
    replace K := hide ((K.out.trans k1).trans kk)
    replace Mk := hide (Mk.keeps kk)
    clear k1 kk
    go_wp2_with fail
    refine (Same_any _ _ noMs noMs _ Mk.out (msBare _ 0) (no_fine 0).lens (no_fine 0).lens).mono ?_
    rintro e w5 ⟨rfl, k1⟩
    rw [decide_eq_true rfl]
    replace K := hide (K.out.trans k1)
    clear k1
    go_wp2_with fail
    refine (live8_any _).mono ?_
    rintro e wz ⟨rfl, kz⟩
    go_wp2
    go_ret
    exact ⟨rfl, K.out.trans kz⟩
  · rcases enc_bad he with hem | ⟨hem, _⟩
    · rw [hem]
      clear he hem
      go_wp2_with fail
      refine (live8_any _).mono ?_
      rintro e wz ⟨rfl, kz⟩
      go_wp2
      go_ret
      exact ⟨rfl, K.out.trans kz⟩
    · rw [hem]
      clear he hem
      go_wp2_with fail
      refine (live8_any _).mono ?_
      rintro e wz ⟨rfl, kz⟩
      go_wp2
      go_ret
      exact ⟨rfl, K.out.trans kz⟩
end Go.Proofs.Ytmhipcphgbcggaa
