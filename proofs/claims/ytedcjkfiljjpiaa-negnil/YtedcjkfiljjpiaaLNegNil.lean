/- NegNil answers true, for every input: the walk. -/
import Derived.Test.YtedcjkfiljjpiaaLNegA
namespace Go.Proofs.Ytedcjkfiljjpiaa
open Go.RowKit

set_option maxHeartbeats 16000000 in
set_option maxRecDepth 100000 in
theorem NegNil_go (HLV : ∀ w, Calls Try.prog 9 #[] w fun e w' => e = .returned (.bool true) ∧ Keeps w w') (v : Value) (o : Op15) (w : World) (hv : Op15At w v o) (hf : Op15Fine o) :
    Calls Try.prog 5 #[v] w fun e w' => e = .returned (.bool true) ∧ Keeps w w' := by
  obtain ⟨vd, rfl, hds⟩ := hv
  have HL := hide HLV
  clear HLV
  have HF := hide hf
  obtain ⟨hq, hfs, hin, _, _⟩ := hf
  have HDS := hide hds
  obtain ⟨da, dc, rfl⟩ := hds.len
  clear hds
  unfold op15V
  have B := hide (Blk.made w #[.int .i64 o.d, .int .i64 o.now, .string o.key.n, .int .i64 o.key.t, .int .i64 o.key.c, .bool o.nx, .string o.soa.key.n, .int .i64 o.soa.key.t, .int .i64 o.soa.key.c, .slice da o.soa.ds.length dc, .int .i64 o.soa.ttl] 37)
  have K := hide ((Keeps.refl w).alloc (.cells #[.int .i64 o.d, .int .i64 o.now, .string o.key.n, .int .i64 o.key.t, .int .i64 o.key.c, .bool o.nx, .string o.soa.key.n, .int .i64 o.soa.key.t, .int .i64 o.soa.key.c, .slice da o.soa.ds.length dc, .int .i64 o.soa.ttl] 37))
  go_enter Try.func5, Try.ntmps5
  go_upto_region 1 with fail
  generalize w.alloc (.cells #[.int .i64 o.d, .int .i64 o.now, .string o.key.n, .int .i64 o.key.t, .int .i64 o.key.c, .bool o.nx, .string o.soa.key.n, .int .i64 o.soa.key.t, .int .i64 o.soa.key.c, .slice da o.soa.ds.length dc, .int .i64 o.soa.ttl] 37) = W at *
  generalize hF : w.heap.size = F at B ⊢
  replace hF := hide hF
  obtain ⟨b0, b1, b2, b3, b4, b5, b6, b7, b8, b9, b10⟩ := B.out.eleven
  have kA := (Keeps.refl W).alloc (.cells #[.int .i64 o.d, .int .i64 o.now, .string o.key.n, .int .i64 o.key.t, .int .i64 o.key.c, .bool o.nx, .string o.soa.key.n, .int .i64 o.soa.key.t, .int .i64 o.soa.key.c, .slice da o.soa.ds.length dc, .int .i64 o.soa.ttl] 37)
  have HSM := hide (small15_any (.slice (some ⟨W.heap.size, 0, none⟩) 1 1) [(o, .slice da o.soa.ds.length dc)] 1 _ ⟨row_one (z := (o, .slice da o.soa.ds.length dc)) (Blk.made W #[.int .i64 o.d, .int .i64 o.now, .string o.key.n, .int .i64 o.key.t, .int .i64 o.key.c, .bool o.nx, .string o.soa.key.n, .int .i64 o.soa.key.t, .int .i64 o.soa.key.c, .slice da o.soa.ds.length dc, .int .i64 o.soa.ttl] 37), fun z hz => by rw [List.mem_singleton] at hz; subst hz; exact ⟨HF.out, HDS.out.keeps (K.out.trans kA)⟩, by show (1 : Nat) ≤ maxLen; unfold maxLen; omega⟩)
  generalize small15 [(o, .slice da o.soa.ds.length dc)] 1 = SM at *
  replace B := hide (B.out.keeps kA)
  replace K := hide (K.out.trans kA)
  clear kA
  go_wp2_with fail
  refine (HSM.out).mono ?_
  rintro e w1 ⟨rfl, k1⟩
  replace B := hide (B.out.keeps k1)
  replace K := hide (K.out.trans k1)
  clear k1 HSM b0 b1 b2 b3 b4 b5 b6 b7 b8 b9 b10
  cases SM
  · go_wp2_with fail
    refine (HL.out _).mono ?_
    rintro e wz ⟨rfl, kz⟩
    replace K := hide (K.out.trans kz)
    clear kz
    go_wp2
    go_ret
    exact ⟨rfl, K.out⟩
  obtain ⟨b0, b1, b2, b3, b4, b5, b6, b7, b8, b9, b10⟩ := B.out.eleven
  go_wp2_with fail
  refine (Find_nil o.now o.key _ hq).mono ?_
  intro e w2 hE
  obtain ⟨vi, rfl, ht, k1⟩ := hE
  obtain rfl : vi = niV noNi (.slice none 0 0) := ht
  rw [show niV noNi (.slice none 0 0) = .agg #[.string ⟨#[]⟩, .int .i64 0, .int .i64 0, .bool false, .string ⟨#[]⟩, .int .i64 0, .int .i64 0, .slice none 0 0, .int .i64 0, .int .i64 0] from rfl]
  simp only [Option.isSome_none]
  have k2 := k1.alloc (.cells #[.string ⟨#[]⟩, .int .i64 0, .int .i64 0, .bool false, .string ⟨#[]⟩, .int .i64 0, .int .i64 0, .slice none 0 0, .int .i64 0, .int .i64 0] 48)
  have X := hide (Blk.made w2 #[.string ⟨#[]⟩, .int .i64 0, .int .i64 0, .bool false, .string ⟨#[]⟩, .int .i64 0, .int .i64 0, .slice none 0 0, .int .i64 0, .int .i64 0] 48)
  replace B := hide (B.out.keeps k2)
  replace K := hide (K.out.trans k2)
  clear k1 k2 b0 b1 b2 b3 b4 b5 b6 b7 b8 b9 b10
  go_upto_region 5 with fail
  generalize w2.alloc (.cells #[.string ⟨#[]⟩, .int .i64 0, .int .i64 0, .bool false, .string ⟨#[]⟩, .int .i64 0, .int .i64 0, .slice none 0 0, .int .i64 0, .int .i64 0] 48) = W2 at *
  generalize w2.heap.size = XB at *
  obtain ⟨b0, b1, b2, b3, b4, b5, b6, b7, b8, b9, b10⟩ := B.out.eleven
  go_wp2_with fail
  refine (PutN_nil o.now o.key o.nx _ o.soa _ ⟨_, rfl, HDS.out.keeps K.out⟩ hfs hq).mono ?_
  rintro e w3 ⟨rfl, k1⟩
  replace B := hide (B.out.keeps k1)
  replace X := hide (X.out.keeps k1)
  replace K := hide (K.out.trans k1)
  clear k1 b0 b1 b2 b3 b4 b5 b6 b7 b8 b9 b10
  obtain ⟨b0, b1, b2, b3, b4, b5, b6, b7, b8, b9, b10⟩ := B.out.eleven
  have x9 := X.out.ten.1.2.2.2.2.2.2.2.2.2
  go_wp2_with fail
  refine (DropN_nil o.key.n _).mono ?_
  rintro e w4 ⟨rfl, rfl⟩
  go_wp2_with fail
  refine (KeysN_nil _).mono ?_
  rintro e w5 ⟨rfl, rfl⟩
  go_wp2_with fail
  refine (ChangesN_nil _).mono ?_
  rintro e w6 ⟨rfl, rfl⟩
  go_wp2_with fail
  refine (HL.out _).mono ?_
  rintro e wz ⟨rfl, kz⟩
  replace K := hide (K.out.trans kz)
  clear kz
  go_wp2
  go_ret
  exact ⟨rfl, K.out⟩
end Go.Proofs.Ytedcjkfiljjpiaa
