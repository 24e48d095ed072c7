/- StoreNil answers true, for every input: the walk. -/
import Derived.Test.YtgfaoaabnjblhaaStoL
import Derived.Test.YtgfaoaabnjblhaaShapesT
import Derived.Test.YtgfaoaabnjblhaaGrp9
namespace Go.Proofs.Ytgfaoaabnjblhaa
open Go.RowKit

theorem Blk.eight {w : World} {G : Nat} {a b c d e f g i : Value} {ty : TypeId} (h : Blk w G #[a, b, c, d, e, f, g, i] ty) :
    w.cell? ⟨G, 0, none⟩ = some a ∧ w.cell? ⟨G, 1, none⟩ = some b ∧ w.cell? ⟨G, 2, none⟩ = some c ∧ w.cell? ⟨G, 3, none⟩ = some d ∧ w.cell? ⟨G, 4, none⟩ = some e ∧ w.cell? ⟨G, 5, none⟩ = some f ∧ w.cell? ⟨G, 6, none⟩ = some g ∧ w.cell? ⟨G, 7, none⟩ = some i :=
  ⟨h.cell 0, h.cell 1, h.cell 2, h.cell 3, h.cell 4, h.cell 5, h.cell 6, h.cell 7⟩

/-- The cells that the last sentence reads. -/
def SNil (F XB YB : Nat) (d now : Int) (n : ByteArray) (t c : Int) (a : Option Addr) (dl cap : Nat) (ttl rk : Int) (w' : World) : Prop :=
  (w'.cell? ⟨F, 0, none⟩ = some (.int .i64 d) ∧ w'.cell? ⟨F, 1, none⟩ = some (.int .i64 now) ∧ w'.cell? ⟨F, 2, none⟩ = some (.string n) ∧ w'.cell? ⟨F, 3, none⟩ = some (.int .i64 t) ∧ w'.cell? ⟨F, 4, none⟩ = some (.int .i64 c) ∧ w'.cell? ⟨F, 5, none⟩ = some (.slice a dl cap) ∧ w'.cell? ⟨F, 6, none⟩ = some (.int .i64 ttl) ∧ w'.cell? ⟨F, 7, none⟩ = some (.int .i64 rk)) ∧ (w'.cell? ⟨XB, 0, none⟩ = some (.string ⟨#[]⟩) ∧ w'.cell? ⟨XB, 1, none⟩ = some (.int .i64 0) ∧ w'.cell? ⟨XB, 2, none⟩ = some (.int .i64 0) ∧ w'.cell? ⟨XB, 3, none⟩ = some (.slice none 0 0) ∧ w'.cell? ⟨XB, 4, none⟩ = some (.int .i64 0) ∧ w'.cell? ⟨XB, 5, none⟩ = some (.int .i64 0) ∧ w'.cell? ⟨XB, 6, none⟩ = some (.int .i64 0)) ∧ (w'.cell? ⟨YB, 0, none⟩ = some (.string ⟨#[]⟩) ∧ w'.cell? ⟨YB, 1, none⟩ = some (.int .i64 0) ∧ w'.cell? ⟨YB, 2, none⟩ = some (.int .i64 0) ∧ w'.cell? ⟨YB, 3, none⟩ = some (.slice none 0 0) ∧ w'.cell? ⟨YB, 4, none⟩ = some (.int .i64 0) ∧ w'.cell? ⟨YB, 5, none⟩ = some (.int .i64 0) ∧ w'.cell? ⟨YB, 6, none⟩ = some (.int .i64 0))
theorem SNil.mk {F XB YB : Nat} {d now : Int} {n : ByteArray} {t c : Int} {a : Option Addr} {dl cap : Nat} {ttl rk : Int} {w' : World} {t1 t2 t3 : TypeId} (h1 : Blk w' F #[.int .i64 d, .int .i64 now, .string n, .int .i64 t, .int .i64 c, .slice a dl cap, .int .i64 ttl, .int .i64 rk] t1) (h2 : Blk w' XB #[.string ⟨#[]⟩, .int .i64 0, .int .i64 0, .slice none 0 0, .int .i64 0, .int .i64 0, .int .i64 0] t2) (h3 : Blk w' YB #[.string ⟨#[]⟩, .int .i64 0, .int .i64 0, .slice none 0 0, .int .i64 0, .int .i64 0, .int .i64 0] t3) : SNil F XB YB d now n t c a dl cap ttl rk w' :=
  ⟨h1.eight, h2.seven.1, h3.seven.1⟩
set_option maxHeartbeats 16000000 in
set_option maxRecDepth 100000 in
theorem StoreNil_walk (v : Value) (o : Op14) (w : World) (hv : Op14At w v o) (hf : Op14Fine o) :
    Calls Try.prog 6 #[v] w fun e w' => e = .returned (.bool true) ∧ Keeps w w' := by
  obtain ⟨vd, rfl, hds⟩ := hv
  obtain ⟨hf1, hf2, _, _, _⟩ := hf
  have hst : StAt w (.agg #[.string o.set.key.n, .int .i64 o.set.key.t, .int .i64 o.set.key.c, vd, .int .i64 o.set.ttl]) o.set := ⟨vd, rfl, hds⟩
  have HSM := hide (fun W (kk : Keeps w W) => SmallS_any _ o.set W (hst.keeps kk) hf1)
  have HPN := hide (fun W (kk : Keeps w W) => Put_nil o.now _ o.set o.rank W (hst.keeps kk) hf1 hf2)
  obtain ⟨a, cap, rfl⟩ := hds.len
  unfold op14V
  have HDN := hide (fun W => Drop_nil o.set.key W)
  have HGN := hide (fun W => Get_nil o.now o.set.key W)
  have HPK := hide (fun W => Peek_nil o.now o.set.key W)
  have HTD := hide (fun W => told14_any ⟨#[]⟩ 0 0 0 0 0 none 0 0 W)
  have HON := hide (fun W => (show Calls Try.prog 17 #[.agg #[.string ⟨#[]⟩, .int .i64 0, .int .i64 0, .slice none 0 0, .int .i64 0, .int .i64 0, .int .i64 0], .agg #[.string ⟨#[]⟩, .int .i64 0, .int .i64 0, .slice none 0 0, .int .i64 0, .int .i64 0, .int .i64 0]] W fun e w' => e = .returned (.bool (decide (noIt = noIt))) ∧ Keeps W w' from One14_any (.slice none 0 0) (.slice none 0 0) noIt noIt W ReadS.none ReadS.none (by decide)))
  rw [decide_eq_true rfl] at HON
  generalize o.set.key.n = n at *
  generalize o.set.key.t = t at *
  generalize o.set.key.c = c at *
  generalize o.set.ttl = ttl at *
  generalize o.now = now at *
  generalize o.rank = rk at *
  generalize o.d = d at *
  generalize o.set.ds.length = dl at *
  have B := hide (Blk.made w #[.int .i64 d, .int .i64 now, .string n, .int .i64 t, .int .i64 c, .slice a dl cap, .int .i64 ttl, .int .i64 rk] 37)
  have K := hide ((Keeps.refl w).alloc (.cells #[.int .i64 d, .int .i64 now, .string n, .int .i64 t, .int .i64 c, .slice a dl cap, .int .i64 ttl, .int .i64 rk] 37))
  go_enter Try.func6, Try.ntmps6
  go_upto_region 1 with fail
  generalize w.alloc (.cells #[.int .i64 d, .int .i64 now, .string n, .int .i64 t, .int .i64 c, .slice a dl cap, .int .i64 ttl, .int .i64 rk] 37) = W at *
  generalize hF : w.heap.size = F at B ⊢
  replace hF := hide hF
  obtain ⟨b0, b1, b2, b3, b4, b5, b6, b7⟩ := B.out.eight
  go_wp2_with fail
  refine (HSM.out _ K.out).mono ?_
  rintro e w1 ⟨rfl, k1⟩
  replace B := hide (B.out.keeps k1)
  replace K := hide (K.out.trans k1)
  clear k1 b0 b1 b2 b3 b4 b5 b6 b7 HSM
  cases smallS o.set
  · go_wp2_with fail
    refine (live14_any _).mono ?_
    rintro e w2 ⟨rfl, k1⟩
    replace K := hide (K.out.trans k1)
    clear k1
    go_wp2
    go_ret
    exact ⟨rfl, K.out⟩
  obtain ⟨b0, b1, b2, b3, b4, b5, b6, b7⟩ := B.out.eight
  go_wp2_with fail
  refine (HGN.out _).mono ?_
  intro e w2 hE
  obtain ⟨vi, rfl, ht, k1⟩ := hE
  obtain rfl : vi = itV noIt (.slice none 0 0) := ht
  replace B := hide ((B.out.keeps k1).alloc (.cells #[.string ⟨#[]⟩, .int .i64 0, .int .i64 0, .slice none 0 0, .int .i64 0, .int .i64 0, .int .i64 0] 46))
  replace K := hide ((K.out.trans k1).alloc (.cells #[.string ⟨#[]⟩, .int .i64 0, .int .i64 0, .slice none 0 0, .int .i64 0, .int .i64 0, .int .i64 0] 46))
  have X := hide (Blk.made w2 #[.string ⟨#[]⟩, .int .i64 0, .int .i64 0, .slice none 0 0, .int .i64 0, .int .i64 0, .int .i64 0] 46)
  clear k1 b0 b1 b2 b3 b4 b5 b6 b7 HGN
  unfold itV noIt noSt noQn
  simp only [Option.isSome_none]
  go_upto_region 5 with fail
  generalize w2.alloc (.cells #[.string ⟨#[]⟩, .int .i64 0, .int .i64 0, .slice none 0 0, .int .i64 0, .int .i64 0, .int .i64 0] 46) = W2 at *
  generalize w2.heap.size = XB at *
  obtain ⟨b0, b1, b2, b3, b4, b5, b6, b7⟩ := B.out.eight
  go_wp2_with fail
  refine (HPK.out _).mono ?_
  intro e w3 hE
  obtain ⟨vi, rfl, ht, k1⟩ := hE
  obtain rfl : vi = itV noIt (.slice none 0 0) := ht
  replace B := hide ((B.out.keeps k1).alloc (.cells #[.string ⟨#[]⟩, .int .i64 0, .int .i64 0, .slice none 0 0, .int .i64 0, .int .i64 0, .int .i64 0] 46))
  replace X := hide ((X.out.keeps k1).alloc (.cells #[.string ⟨#[]⟩, .int .i64 0, .int .i64 0, .slice none 0 0, .int .i64 0, .int .i64 0, .int .i64 0] 46))
  replace K := hide ((K.out.trans k1).alloc (.cells #[.string ⟨#[]⟩, .int .i64 0, .int .i64 0, .slice none 0 0, .int .i64 0, .int .i64 0, .int .i64 0] 46))
  have Y := hide (Blk.made w3 #[.string ⟨#[]⟩, .int .i64 0, .int .i64 0, .slice none 0 0, .int .i64 0, .int .i64 0, .int .i64 0] 46)
  clear k1 b0 b1 b2 b3 b4 b5 b6 b7 HPK
  unfold itV noIt noSt noQn
  simp only [Option.isSome_none]
  go_upto_region 6 with fail
  generalize w3.alloc (.cells #[.string ⟨#[]⟩, .int .i64 0, .int .i64 0, .slice none 0 0, .int .i64 0, .int .i64 0, .int .i64 0] 46) = W3 at *
  generalize w3.heap.size = YB at *
  have HT : Hid (∀ w', Keeps W3 w' → SNil F XB YB d now n t c a dl cap ttl rk w') := fun w' k => SNil.mk (B.out.keeps k) (X.out.keeps k) (Y.out.keeps k)
  have T := HT.out _ (Keeps.refl W3).drew
  have KK : Keeps W3 W3.drew := (Keeps.refl W3).drew
  unfold SNil at T HT
  go_region_held3 (fun w' => (w'.cell? ⟨F, 0, none⟩ = some (.int .i64 d) ∧ w'.cell? ⟨F, 1, none⟩ = some (.int .i64 now) ∧ w'.cell? ⟨F, 2, none⟩ = some (.string n) ∧ w'.cell? ⟨F, 3, none⟩ = some (.int .i64 t) ∧ w'.cell? ⟨F, 4, none⟩ = some (.int .i64 c) ∧ w'.cell? ⟨F, 5, none⟩ = some (.slice a dl cap) ∧ w'.cell? ⟨F, 6, none⟩ = some (.int .i64 ttl) ∧ w'.cell? ⟨F, 7, none⟩ = some (.int .i64 rk)) ∧ (w'.cell? ⟨XB, 0, none⟩ = some (.string ⟨#[]⟩) ∧ w'.cell? ⟨XB, 1, none⟩ = some (.int .i64 0) ∧ w'.cell? ⟨XB, 2, none⟩ = some (.int .i64 0) ∧ w'.cell? ⟨XB, 3, none⟩ = some (.slice none 0 0) ∧ w'.cell? ⟨XB, 4, none⟩ = some (.int .i64 0) ∧ w'.cell? ⟨XB, 5, none⟩ = some (.int .i64 0) ∧ w'.cell? ⟨XB, 6, none⟩ = some (.int .i64 0)) ∧ (w'.cell? ⟨YB, 0, none⟩ = some (.string ⟨#[]⟩) ∧ w'.cell? ⟨YB, 1, none⟩ = some (.int .i64 0) ∧ w'.cell? ⟨YB, 2, none⟩ = some (.int .i64 0) ∧ w'.cell? ⟨YB, 3, none⟩ = some (.slice none 0 0) ∧ w'.cell? ⟨YB, 4, none⟩ = some (.int .i64 0) ∧ w'.cell? ⟨YB, 5, none⟩ = some (.int .i64 0) ∧ w'.cell? ⟨YB, 6, none⟩ = some (.int .i64 0))) (exact T) ((first | (go_at_call 14; refine (HPN.out _ (K.out.trans KK)).mono ?_; rintro e w5 ⟨rfl, k5⟩; replace KK := Keeps.trans KK k5; replace T := HT.out _ KK; clear k5) | (go_at_call 18; refine (HTD.out _).mono ?_; rintro e w5 ⟨rfl, k5⟩; replace KK := Keeps.trans KK k5; replace T := HT.out _ KK; clear k5) | (go_at_call 17; refine (HON.out _).mono ?_; rintro e w5 ⟨rfl, k5⟩; replace KK := Keeps.trans KK k5; replace T := HT.out _ KK; clear k5) | (go_at_call 22; refine (HDN.out _).mono ?_; rintro e w5 ⟨rfl, k5⟩; replace KK := Keeps.trans KK k5; replace T := HT.out _ KK; clear k5) | (go_at_call 24; refine (Keys_nil _).mono ?_; rintro e w5 ⟨rfl, rfl⟩) | (go_at_call 26; refine (Changes_nil _).mono ?_; rintro e w5 ⟨rfl, rfl⟩) | (go_at_call 10; refine (live14_any _).mono ?_; rintro e w5 ⟨rfl, k5⟩; replace KK := Keeps.trans KK k5; replace T := HT.out _ KK; clear k5)))
  go_wp2
  go_ret
  exact ⟨rfl, K.out.trans KK⟩
end Go.Proofs.Ytgfaoaabnjblhaa
