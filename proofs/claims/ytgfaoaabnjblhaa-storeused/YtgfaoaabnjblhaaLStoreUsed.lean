/- StoreUsed answers true, for every input: the walk. -/
import Derived.Test.YtgfaoaabnjblhaaStoO
import Derived.Test.YtgfaoaabnjblhaaStoS
namespace Go.Proofs.Ytgfaoaabnjblhaa
open Go.RowKit

/-- The set of number j. -/
def oneK (j : Nat) : St := oneS (j : Int)
theorem oneK_inj' : ∀ i, i < 81 → ∀ j, j < 81 → (oneK i).key = (oneK j).key → i = j := by decide +kernel
theorem oneK_inj : Us.Inj oneK 81 := fun i j hi hj h => oneK_inj' i hi j hj h
theorem oneK_ok : ∀ i, i < 81 → stOk (oneK i) = true := by decide +kernel
theorem oneK_fine (i : Nat) : StFine (oneK i) := ⟨by show 4 ≤ maxLen; unfold maxLen; omega, by show 1 ≤ maxLen; unfold maxLen; omega, fun d hd => by
  obtain rfl : d = [49, 49, 49, 49] := by simpa [oneK, oneS] using hd
  show 4 ≤ maxLen; unfold maxLen; omega⟩
theorem oneK_in (i : Nat) : StIn (oneK i) := ⟨⟨(oneK_fine i).1, by show (-9223372036854775808 : Int) ≤ 1 ∧ (1 : Int) ≤ 9223372036854775807; omega, by show (-9223372036854775808 : Int) ≤ 1 ∧ (1 : Int) ≤ 9223372036854775807; omega⟩, by show (-9223372036854775808 : Int) ≤ 99 ∧ (99 : Int) ≤ 9223372036854775807; omega⟩

/-- The i-th of the first ones is put. -/
theorem used_fill (p m room i : Nat) (V : Value) (W : World) (h40 : room ≤ 40) (hi : i < room) (hv : StAt W V (oneK i)) (h : SAt W p m ⟨room, Us.fill oneK i, i⟩) :
    Calls Try.prog 14 #[.pointer (some ⟨p, 0, none⟩), .int .i64 0, V, .int .i64 3] W fun e w' => PutEnd W p m 0 ⟨room, Us.fill oneK (i + 1), (i + 1 : Nat)⟩ e w' := by
  obtain ⟨e1, e2⟩ := Us.put_fill oneK_inj (show room ≤ 81 by omega) hi (oneK_ok i (by omega)) rfl
  have hp := Put_any p m _ 0 V (oneK i) 3 W hv (oneK_fine i) (oneK_in i) h (by show 1 ≤ 1000000; omega) (by show (i : Int) ≤ _; omega)
  rw [e1, e2] at hp
  exact hp
/-- One more of the full store. -/
theorem used_more (p m room at_ i : Nat) (c : Int) (V : Value) (W : World) (h40 : room ≤ 40) (ha : at_ < room) (hi : i + 1 < room) (hc : c ≤ 1000) (hv : StAt W V (oneK (room + i))) (h : SAt W p m ⟨room, Us.more oneK room at_ i, c⟩) :
    Calls Try.prog 14 #[.pointer (some ⟨p, 0, none⟩), .int .i64 1, V, .int .i64 3] W fun e w' => PutEnd W p m 0 ⟨room, Us.more oneK room at_ (i + 1), c + 1⟩ e w' := by
  obtain ⟨e1, e2⟩ := Us.put_more oneK_inj (show room + i < 81 by omega) ha hi c (oneK_ok (room + i) (by omega)) rfl
  have hp := Put_any p m _ 1 V (oneK (room + i)) 3 W hv (oneK_fine _) (oneK_in _) h (by show 1 ≤ 1000000; omega) (by show c ≤ _; omega)
  rw [e1, e2] at hp
  exact hp
/-- Who was got last is told. -/
theorem used_peek (p m room at_ i : Nat) (c : Int) (W : World) (h40 : room ≤ 40) (ha : at_ < room) (hi : i < room) (h : SAt W p m ⟨room, Us.more oneK room at_ i, c⟩) :
    Calls Try.prog 20 #[.pointer (some ⟨p, 0, none⟩), .int .i64 1, .agg #[.string (oneN at_), .int .i64 1, .int .i64 1]] W fun e w' => PeekEnd W (some (Us.itK oneK 99 at_)) e w' := by
  have hp := Peek_any p m _ 1 (oneK at_).key W h (oneK_in at_).1
  have e : Sto.peek ⟨room, Us.more oneK room at_ i, c⟩ 1 (oneK at_).key = some (Us.itK oneK 99 at_) := by
    unfold Sto.peek
    rw [Us.find_more oneK_inj ha (show room + i ≤ 81 by omega)]
    rfl
  rw [e] at hp
  exact hp
theorem used_last (p m room at_ : Nat) (c : Int) (V : Value) (W : World) (h2 : 2 ≤ room) (h40 : room ≤ 40) (ha : at_ < room) (hc : c ≤ 1000) (hv : StAt W V (oneK (2 * room))) (h : SAt W p m ⟨room, Us.more oneK room at_ (room - 1), c⟩) :
    Calls Try.prog 14 #[.pointer (some ⟨p, 0, none⟩), .int .i64 1, V, .int .i64 3] W fun e w' => ∃ k s, e = .returned (.int .i64 k) ∧ SAt w' p m s ∧ KB p m W w' ∧ Sto.peek s 1 (oneK at_).key = none := by
  have e := Us.put_last oneK_inj (show 2 * room < 81 by omega) ha h2 c (oneK_ok (2 * room) (by omega)) rfl
  refine (Put_any p m _ 1 V (oneK (2 * room)) 3 W hv (oneK_fine _) (oneK_in _) h (by show 1 ≤ 1000000; omega) (by show c ≤ _; omega)).mono ?_
  rintro e w' ⟨rfl, h1, h3⟩
  exact ⟨_, _, rfl, h1, h3, e⟩

theorem used_get (p m room at_ : Nat) (c : Int) (W : World) (h40 : room ≤ 40) (ha : at_ < room) (h : SAt W p m ⟨room, Us.fill oneK room, c⟩) :
    Calls Try.prog 16 #[.pointer (some ⟨p, 0, none⟩), .int .i64 1, .agg #[.string (oneN at_), .int .i64 1, .int .i64 1]] W fun e w' => GetEnd W p m (some (Us.itK oneK 99 at_)) ⟨room, Us.more oneK room at_ 0, c⟩ e w' := by
  have hp := Get_any p m _ 1 (oneK at_).key W h (oneK_in at_).1
  obtain ⟨e1, e2⟩ := Us.get_fill oneK_inj (show room ≤ 81 by omega) ha c
  rw [e1, e2] at hp
  exact hp
theorem used_gone (p m at_ : Nat) (s : Sto) (W : World) (h : SAt W p m s) (hn : Sto.peek s 1 (oneK at_).key = none) :
    Calls Try.prog 20 #[.pointer (some ⟨p, 0, none⟩), .int .i64 1, .agg #[.string (oneN at_), .int .i64 1, .int .i64 1]] W fun e w' => PeekEnd W none e w' := by
  have hp := Peek_any p m _ 1 (oneK at_).key W h (oneK_in at_).1
  rw [hn] at hp
  exact hp
theorem used_keys (p m room at_ i : Nat) (c : Int) (W : World) (ha : at_ < room) (hi : i < room) (h : SAt W p m ⟨room, Us.more oneK room at_ i, c⟩) :
    Calls Try.prog 24 #[.pointer (some ⟨p, 0, none⟩)] W fun e w' => ∃ a cp, e = .returned (.slice a room cp) ∧ Keeps W w' := by
  refine (Keys_any p m _ W h).mono ?_
  rintro e w' ⟨v, rfl, ho, k⟩
  obtain ⟨a, cp, rfl⟩ := ho.form
  refine ⟨a, cp, ?_, k⟩
  rw [List.length_map]
  unfold Sto.keys
  rw [Sto.keysL_len, Us.more_len ha hi]
theorem oneK_at {W : World} {i : Int} {j : Nat} (e : (j : Int) = i) {a : Addr} {c : Nat} (h : ReadS W (.slice (some a) 1 c) [[49, 49, 49, 49]]) : StAt W (.agg #[.string (oneN i), .int .i64 1, .int .i64 1, .slice (some a) 1 c, .int .i64 99]) (oneK j) := by
  subst e
  exact ⟨_, rfl, h⟩
theorem field_key (n : ByteArray) (v : Value) (w : World) : (Instr.field 35 (.agg #[.string n, .int .i64 1, .int .i64 1, v, .int .i64 99]) 0).run Try.prog w = .ok (.agg #[.string n, .int .i64 1, .int .i64 1]) w := by kernel_rfl
set_option maxHeartbeats 16000000 in
set_option maxRecDepth 100000 in
theorem StoreUsed_yes (room at_ : Nat) (w : World) (h2 : 2 ≤ room) (h40 : room ≤ 40) (ha : at_ < room) :
    Calls Try.prog 8 #[.int .i64 (room : Int), .int .i64 (at_ : Int)] w fun e w' => e = .returned (.bool true) ∧ Keeps w w' := by
  have HF := hide (fun p m i V W (hi : i < room) (hv : StAt W V (oneK i)) (h : SAt W p m ⟨room, Us.fill oneK i, i⟩) => used_fill p m room i V W h40 hi hv h)
  have HM := hide (fun p m i c V W (hi : i + 1 < room) (hc : c ≤ 1000) (hv : StAt W V (oneK (room + i))) (h : SAt W p m ⟨room, Us.more oneK room at_ i, c⟩) => used_more p m room at_ i c V W h40 ha hi hc hv h)
  have HP := hide (fun p m i c W (hi : i < room) (h : SAt W p m ⟨room, Us.more oneK room at_ i, c⟩) => used_peek p m room at_ i c W h40 ha hi h)
  have HL := hide (fun p m c V W (hc : c ≤ 1000) (hv : StAt W V (oneK (2 * room))) (h : SAt W p m ⟨room, Us.more oneK room at_ (room - 1), c⟩) => used_last p m room at_ c V W h2 h40 ha hc hv h)
  have HG := hide (fun p m c W (h : SAt W p m ⟨room, Us.fill oneK room, c⟩) => used_get p m room at_ c W h40 ha h)
  generalize Us.itK oneK 99 at_ = x at *
  have hfld := field_key (oneN at_)
  have x1 : ¬ (room : Int) < 2 := by omega
  have x2 : ¬ (40 : Int) < (room : Int) := by omega
  have x3 : ¬ (at_ : Int) < 0 := by omega
  have x4 : ¬ (room : Int) ≤ (at_ : Int) := by omega
  go_enter Try.func8, Try.ntmps8
  go_wp2_with fail
  refine (New_yes room _ (by omega) (by omega)).mono ?_
  intro e w1 hE
  obtain ⟨p, m, rfl, hp, hm, hS, k1⟩ := hE
  have hpw : Hid (w.heap.size ≤ p ∧ w.heap.size ≤ m) := ⟨hp, hm⟩
  have S := hide (show SAt w1 p m ⟨room, Us.fill oneK 0, (0 : Nat)⟩ from hS)
  have K := hide k1
  clear hS k1 hp hm x1 x2 x3 x4
  go_wp2_with fail
  go_loopw [6] (fun i wr => ∃ j : Nat, j ≤ room ∧ i = .int .i64 j ∧ Hid (SAt wr p m ⟨room, Us.fill oneK j, j⟩) ∧ Hid (Keeps w wr)) (fun i _ => room - (intOf i).toNat)
  case atStart => exact ⟨0, by omega, rfl, S, K⟩
  case round =>
    obtain ⟨j, hj, rfl, S, K⟩ := hrel
    by_cases hlt : j < room
    · have i2 : (j : Int) < (room : Int) := by omega
      have i0 : (0 : Int) ≤ (j : Int) := by omega
      have i8 : (j : Int) ≤ 80 := by omega
      go_wp2_with fail
      refine (one14_any (j : Int) _ i0 i8).mono ?_
      intro e w2 hE
      obtain ⟨a1, c1, rfl, hR, k1⟩ := hE
      have hV := hide (show StAt w2 (.agg #[.string (oneN j), .int .i64 1, .int .i64 1, .slice (some a1) 1 c1, .int .i64 99]) (oneK j) from ⟨_, rfl, hR⟩)
      replace S := hide (S.out.keeps k1)
      replace K := hide (K.out.trans k1)
      clear k1 hR
      go_wp2_with fail
      refine (HF.out p m j _ _ hlt hV.out S.out).mono ?_
      intro e w3 hE
      obtain ⟨rfl, hS, kb⟩ := hE
      replace S := hide hS
      replace K := hide (show Keeps w w3 from Below.trans K.out (kb.below hpw.out.1 hpw.out.2 K.out.size))
      clear kb hS hV
      go_wp2_with fail
      go_roundw
      case rel => exact ⟨j + 1, by omega, by go_num, S, K⟩
      case measure => simp [intOf]; omega
    have e0 : j = room := by omega
    have i2 : ¬ (j : Int) < (room : Int) := by omega
    replace S := hide (show SAt _ p m ⟨room, Us.fill oneK room, (room : Nat)⟩ by have h := S.out; rw [e0] at h; exact h)
    clear e0 hlt HF
    have a0 : (0 : Int) ≤ (at_ : Int) := by omega
    have a8 : (at_ : Int) ≤ 80 := by omega
    go_wp2_with fail
    refine (one14_any (at_ : Int) _ a0 a8).mono ?_
    intro e w2 hE
    obtain ⟨a1, c1, rfl, hR, k1⟩ := hE
    replace S := hide (S.out.keeps k1)
    replace K := hide (K.out.trans k1)
    clear k1 hR
    go_wp2_with fail
    refine (HG.out p m _ _ S.out).mono ?_
    intro e w3 hE
    obtain ⟨vi, rfl, ht, hS, kb⟩ := hE
    obtain ⟨vd, rfl, ho⟩ := ht
    obtain ⟨xa, xc, rfl⟩ := ho.form
    rw [List.length_map]
    replace K := hide (show Keeps w w3 from Below.trans K.out (kb.below hpw.out.1 hpw.out.2 K.out.size))
    replace K := hide (K.out.alloc (.cells #[.string x.set.key.n, .int .i64 x.set.key.t, .int .i64 x.set.key.c, .slice xa x.set.ds.length xc, .int .i64 x.set.ttl, .int .i64 x.u, .int .i64 x.rank] 46))
    replace S := hide (hS.keeps ((Keeps.refl _).alloc (.cells #[.string x.set.key.n, .int .i64 x.set.key.t, .int .i64 x.set.key.c, .slice xa x.set.ds.length xc, .int .i64 x.set.ttl, .int .i64 x.u, .int .i64 x.rank] 46)))
    clear kb hS ho HG
    unfold itV
    simp only [Option.isSome_some]
    go_upto_region 12 with fail
    generalize w3.alloc (.cells #[.string x.set.key.n, .int .i64 x.set.key.t, .int .i64 x.set.key.c, .slice xa x.set.ds.length xc, .int .i64 x.set.ttl, .int .i64 x.u, .int .i64 x.rank] 46) = w4 at *
    generalize w3.heap.size = XB at *
    go_wp2_with fail
    have hw1 : IntKind.i64.wrap ((room : Int) - 1) = (room : Int) - 1 := by rw [IntKind.wrap_i64]; omega
    go_loopw [9] (fun i wr => ∃ j : Nat, j + 1 ≤ room ∧ i = .int .i64 j ∧ Hid (SAt wr p m ⟨room, Us.more oneK room at_ j, (room : Int) + j⟩) ∧ Hid (Keeps w wr)) (fun i _ => room - (intOf i).toNat)
    case atStart => exact ⟨0, by omega, rfl, hide (by have h := S.out; simpa using h), K⟩
    case round =>
      obtain ⟨j2, hj2, rfl, S, K⟩ := hrel
      by_cases hlt : j2 + 1 < room
      · have i2 : (j2 : Int) < (room : Int) - 1 := by omega
        have i0 : (0 : Int) ≤ (room : Int) + (j2 : Int) := by omega
        have i8 : (room : Int) + (j2 : Int) ≤ 80 := by omega
        go_wp2_with fail
        refine (one14_any ((room : Int) + (j2 : Int)) _ i0 i8).mono ?_
        intro e w5 hE
        obtain ⟨a1, c1, rfl, hR, k1⟩ := hE
        have hV := hide (oneK_at (i := (room : Int) + (j2 : Int)) (j := room + j2) (by omega) hR)
        replace S := hide (S.out.keeps k1)
        replace K := hide (K.out.trans k1)
        clear k1 hR
        go_wp2_with fail
        refine (HM.out p m j2 _ _ _ hlt (by omega) hV.out S.out).mono ?_
        intro e w6 hE
        obtain ⟨rfl, hS, kb⟩ := hE
        replace S := hide hS
        replace K := hide (show Keeps w w6 from Below.trans K.out (kb.below hpw.out.1 hpw.out.2 K.out.size))
        clear kb hS hV
        go_wp2_with fail
        refine (one14_any (at_ : Int) _ a0 a8).mono ?_
        intro e w7 hE
        obtain ⟨a1, c1, rfl, hR, k1⟩ := hE
        replace S := hide (S.out.keeps k1)
        replace K := hide (K.out.trans k1)
        clear k1 hR
        go_wp2_with fail
        refine (HP.out p m (j2 + 1) _ _ hlt S.out).mono ?_
        intro e w8 hE
        obtain ⟨vi, rfl, ht, k1⟩ := hE
        obtain ⟨vd, rfl, ho⟩ := ht
        obtain ⟨xa, xc, rfl⟩ := ho.form
        rw [List.length_map]
        replace k1 := k1.alloc (.cells #[.string x.set.key.n, .int .i64 x.set.key.t, .int .i64 x.set.key.c, .slice xa x.set.ds.length xc, .int .i64 x.set.ttl, .int .i64 x.u, .int .i64 x.rank] 46)
        replace S := hide (S.out.keeps k1)
        replace K := hide (K.out.trans k1)
        clear k1 ho
        unfold itV
        simp only [Option.isSome_some]
        go_upto_region 18 with fail
        generalize w8.alloc (.cells #[.string x.set.key.n, .int .i64 x.set.key.t, .int .i64 x.set.key.c, .slice xa x.set.ds.length xc, .int .i64 x.set.ttl, .int .i64 x.u, .int .i64 x.rank] 46) = w9 at *
        generalize w8.heap.size = YB at *
        go_wp2_with fail
        refine (used_keys p m room at_ (j2 + 1) _ _ ha hlt S.out).mono ?_
        intro e w10 hE
        obtain ⟨ka, kc, rfl, k1⟩ := hE
        replace S := hide (S.out.keeps k1)
        replace K := hide (K.out.trans k1)
        clear k1
        go_wp2_with fail
        go_roundw
        case rel => exact ⟨j2 + 1, by omega, by go_num, hide (by have h := S.out; rw [show (room : Int) + (j2 : Int) + 1 = (room : Int) + ((j2 + 1 : Nat) : Int) by omega] at h; exact h), K⟩
        case measure => simp [intOf]; omega
      have e0 : j2 = room - 1 := by omega
      have i2 : ¬ (j2 : Int) < (room : Int) - 1 := by omega
      replace S := hide (show SAt _ p m ⟨room, Us.more oneK room at_ (room - 1), (room : Int) + j2⟩ by have h := S.out; rw [← e0]; exact h)
      have i0 : (0 : Int) ≤ 2 * (room : Int) := by omega
      have i8 : 2 * (room : Int) ≤ 80 := by omega
      clear e0 hlt HM HP
      go_wp2_with fail
      refine (one14_any (2 * (room : Int)) _ i0 i8).mono ?_
      intro e w5 hE
      obtain ⟨a1, c1, rfl, hR, k1⟩ := hE
      have hV := hide (oneK_at (i := 2 * (room : Int)) (j := 2 * room) (by omega) hR)
      replace S := hide (S.out.keeps k1)
      replace K := hide (K.out.trans k1)
      clear k1 hR
      go_wp2_with fail
      refine (HL.out p m _ _ _ (by omega) hV.out S.out).mono ?_
      intro e w6 hE
      obtain ⟨kk, s, rfl, hS, kb, hn⟩ := hE
      replace S := hide hS
      replace hn := hide hn
      replace K := hide (show Keeps w w6 from Below.trans K.out (kb.below hpw.out.1 hpw.out.2 K.out.size))
      clear kb hS hV HL
      go_wp2_with fail
      refine (one14_any (at_ : Int) _ a0 a8).mono ?_
      intro e w7 hE
      obtain ⟨a1, c1, rfl, hR, k1⟩ := hE
      replace S := hide (S.out.keeps k1)
      replace K := hide (K.out.trans k1)
      clear k1 hR
      go_wp2_with fail
      refine (used_gone p m at_ s _ S.out hn.out).mono ?_
      intro e w8 hE
      obtain ⟨vi, rfl, ht, k1⟩ := hE
      obtain rfl : vi = itV noIt (.slice none 0 0) := ht
      replace K := hide (K.out.trans (k1.alloc (.cells #[.string ⟨#[]⟩, .int .i64 0, .int .i64 0, .slice none 0 0, .int .i64 0, .int .i64 0, .int .i64 0] 46)))
      clear k1 S hn
      unfold itV noIt noSt noQn
      simp only [Option.isSome_none]
      go_upto_region 22 with fail
      generalize w8.alloc (.cells #[.string ⟨#[]⟩, .int .i64 0, .int .i64 0, .slice none 0 0, .int .i64 0, .int .i64 0, .int .i64 0] 46) = w9 at *
      go_wp2_with fail
      refine (live14_any _).mono ?_
      rintro e wz ⟨rfl, kz⟩
      replace K := hide (K.out.trans kz)
      clear kz
      go_wp2
      go_ret
      exact ⟨rfl, K.out⟩
set_option maxHeartbeats 4000000 in
theorem StoreUsed_walk (r a : Int) (w : World) (_ : -9223372036854775808 ≤ r ∧ r ≤ 9223372036854775807) (_ : -9223372036854775808 ≤ a ∧ a ≤ 9223372036854775807) :
    Calls Try.prog 8 #[.int .i64 r, .int .i64 a] w fun e w' => e = .returned (.bool true) ∧ Keeps w w' := by
  by_cases x1 : r < 2
  · go_enter Try.func8, Try.ntmps8
    go_wp2_with fail
    refine (live14_any _).mono ?_
    rintro e wz ⟨rfl, kz⟩
    go_wp2
    go_ret
    exact ⟨rfl, kz⟩
  by_cases x2 : 40 < r
  · go_enter Try.func8, Try.ntmps8
    go_wp2_with fail
    refine (live14_any _).mono ?_
    rintro e wz ⟨rfl, kz⟩
    go_wp2
    go_ret
    exact ⟨rfl, kz⟩
  by_cases x3 : a < 0
  · go_enter Try.func8, Try.ntmps8
    go_wp2_with fail
    refine (live14_any _).mono ?_
    rintro e wz ⟨rfl, kz⟩
    go_wp2
    go_ret
    exact ⟨rfl, kz⟩
  by_cases x4 : r ≤ a
  · go_enter Try.func8, Try.ntmps8
    go_wp2_with fail
    refine (live14_any _).mono ?_
    rintro e wz ⟨rfl, kz⟩
    go_wp2
    go_ret
    exact ⟨rfl, kz⟩
  obtain ⟨room, rfl⟩ : ∃ n : Nat, r = n := ⟨r.toNat, by omega⟩
  obtain ⟨at_, rfl⟩ : ∃ n : Nat, a = n := ⟨a.toNat, by omega⟩
  exact StoreUsed_yes room at_ w (by omega) (by omega) (by omega)
end Go.Proofs.Ytgfaoaabnjblhaa
