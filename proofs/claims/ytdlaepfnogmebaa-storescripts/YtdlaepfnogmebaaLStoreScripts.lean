/- StoreScripts answers true, for every input: the walk. (Made by tools/genscripts14.py.) -/
import Derived.Test.YtdlaepfnogmebaaLStoreScriptsM
import Derived.Test.YtdlaepfnogmebaaLStoreScriptsN
namespace Go.Proofs.Ytdlaepfnogmebaa
open Go.RowKit

set_option maxHeartbeats 8000000 in
set_option maxRecDepth 100000 in
theorem StoreScripts_walk (room : Int) (v : Value) (zs : List (Op14 × Value)) (w : World) (_ : -9223372036854775808 ≤ room ∧ room ≤ 9223372036854775807) (hv : Ops14At w v zs) :
    Calls Try.prog 3 #[.int .i64 room, v] w fun e w' => e = .returned (.bool true) ∧ Keeps w w' := by
  have HSM := hide (small14_any v zs 60 w hv)
  obtain ⟨va, vc, hvd⟩ := hv.1.len
  rw [List.length_map] at hvd
  subst hvd
  cases hsm : small14 zs 60
  · rw [hsm] at HSM
    go_enter Try.func3, Try.ntmps3
    go_wp2_with fail
    refine (HSM.out).mono ?_
    rintro e w1 ⟨rfl, k1⟩
    go_wp2_with fail
    refine (live14_any _).mono ?_
    rintro e wz ⟨rfl, kz⟩
    go_wp2
    go_ret
    exact ⟨rfl, k1.trans kz⟩
  obtain ⟨h60, hds⟩ := small14_len hsm
  by_cases h : room < 1 ∨ 1000 < room
  · exact StoreScripts_none room zs va vc w hv h60 hds hsm h
  · exact StoreScripts_made room zs va vc w hv h60 hds hsm (by omega) (by omega)
end Go.Proofs.Ytdlaepfnogmebaa
