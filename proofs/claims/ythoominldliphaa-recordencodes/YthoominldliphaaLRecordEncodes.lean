/- RecordEncodes answers true, for every input: the walk. -/
import Derived.Test.YthoominldliphaaRecLive
namespace Go.Proofs.Ythoominldliphaa
open Go.RowKit

set_option maxHeartbeats 4000000 in
theorem RecordEncodes_walk (base : ByteArray) (p : Int) (r : Rec) (w : World) (hb : base.size ≤ maxLen) (_ : -9223372036854775808 ≤ p ∧ p ≤ 9223372036854775807) (hn : r.n.size ≤ maxLen) (hd : r.d.size ≤ maxLen) :
    Calls Try.prog 4 #[.string base, .int .i64 p, recV r] w fun e w' => e = .returned (.bool true) ∧ Keeps w w' := by
  have hb' := hb
  have hn' := hn
  have hd' := hd
  unfold maxLen at hb' hn' hd'
  have B1 := Box5.made w (.string r.n) (.int .i64 r.t) (.int .i64 r.c) (.int .i64 r.l) (.string r.d) 24
  have K := (Keeps.refl w).alloc (.cells #[.string r.n, .int .i64 r.t, .int .i64 r.c, .int .i64 r.l, .string r.d] 24)
  by_cases l1 : 300 < (base.size : Int)
  · unfold recV
    go_enter Try.func4, Try.ntmps4
    go_wp2_with (go_at_call 8; refine (live6_any _).mono ?_; rintro e w3 ⟨rfl, k3⟩)
    go_ret
    exact ⟨rfl, K.trans k3⟩
  by_cases l2 : 300 < (r.n.size : Int)
  · unfold recV
    go_enter Try.func4, Try.ntmps4
    go_wp2_with (go_at_call 8; refine (live6_any _).mono ?_; rintro e w3 ⟨rfl, k3⟩)
    go_ret
    exact ⟨rfl, K.trans k3⟩
  by_cases l3 : 70000 < (r.d.size : Int)
  · unfold recV
    go_enter Try.func4, Try.ntmps4
    go_wp2_with (go_at_call 8; refine (live6_any _).mono ?_; rintro e w3 ⟨rfl, k3⟩)
    go_ret
    exact ⟨rfl, K.trans k3⟩
  have H1 := hide (fun W => rcheck_any r W hn hd)
  have H2 := hide (fun W => refrcheck_any r W hn hd)
  have H3 := hide (fun W => encode_any base p r W hb hn (by omega))
  have H4 := hide (fun W => refencode_any base p r W hb hn (by omega))
  have H5 := hide (fun W => ttl_any base p r W hb hn hd)
  have H6 := hide (fun W => refttl_any base p r W hb hn (by omega))
  generalize recOk r = X1 at *
  generalize encS base p r = X2 at *
  generalize ttlAt base p r = X3 at *
  unfold recV at *
  go_enter Try.func4, Try.ntmps4
  go_wp2_with fail
  generalize w.alloc (.cells #[.string r.n, .int .i64 r.t, .int .i64 r.c, .int .i64 r.l, .string r.d] 24) = W at *
  generalize w.heap.size = G at *
  have KK : Keeps w W.drew := K.drew
  have T1 : Box5 G (.string r.n) (.int .i64 r.t) (.int .i64 r.c) (.int .i64 r.l) (.string r.d) W.drew := B1
  clear B1 K
  go_region_held3 (fun w' => w'.cell? ⟨G, 0, none⟩ = some (.string r.n) ∧ w'.cell? ⟨G, 1, none⟩ = some (.int .i64 r.t) ∧ w'.cell? ⟨G, 2, none⟩ = some (.int .i64 r.c) ∧ w'.cell? ⟨G, 3, none⟩ = some (.int .i64 r.l) ∧ w'.cell? ⟨G, 4, none⟩ = some (.string r.d) ∧ G < w'.heap.size) (exact T1) ((first | (go_at_call 11; refine (H1.out _).mono ?_; rintro e w5 ⟨rfl, k5⟩; replace T1 := Box5.keeps T1 k5; replace KK := Keeps.trans KK k5; clear k5) | (go_at_call 12; refine (H2.out _).mono ?_; rintro e w5 ⟨rfl, k5⟩; replace T1 := Box5.keeps T1 k5; replace KK := Keeps.trans KK k5; clear k5) | (go_at_call 13; refine (H3.out _).mono ?_; rintro e w5 ⟨rfl, k5⟩; replace T1 := Box5.keeps T1 k5; replace KK := Keeps.trans KK k5; clear k5) | (go_at_call 14; refine (H4.out _).mono ?_; rintro e w5 ⟨rfl, k5⟩; replace T1 := Box5.keeps T1 k5; replace KK := Keeps.trans KK k5; clear k5) | (go_at_call 15; refine (H5.out _).mono ?_; rintro e w5 ⟨rfl, k5⟩; replace T1 := Box5.keeps T1 k5; replace KK := Keeps.trans KK k5; clear k5) | (go_at_call 16; refine (H6.out _).mono ?_; rintro e w5 ⟨rfl, k5⟩; replace T1 := Box5.keeps T1 k5; replace KK := Keeps.trans KK k5; clear k5) | (go_at_call 8; refine (live6_any _).mono ?_; rintro e w5 ⟨rfl, k5⟩; replace T1 := Box5.keeps T1 k5; replace KK := Keeps.trans KK k5; clear k5)))
  go_wp2
  go_ret
  exact ⟨rfl, KK⟩
end Go.Proofs.Ythoominldliphaa
