/- StoreNil answers true, for every input: the walk. -/
import Derived.Test.YtdlaepfnogmebaaStoL
import Derived.Test.YtdlaepfnogmebaaShapesT
import Derived.Test.YtdlaepfnogmebaaGrpA
namespace Go.Proofs.Ytdlaepfnogmebaa
open Go.RowKit

theorem Blk.eight {w : World} {G : Nat} {a b c d e f g i : Value} {ty : TypeId} (h : Blk w G #[a, b, c, d, e, f, g, i] ty) :
    w.cell? ⟨G, 0, none⟩ = some a ∧ w.cell? ⟨G, 1, none⟩ = some b ∧ w.cell? ⟨G, 2, none⟩ = some c ∧ w.cell? ⟨G, 3, none⟩ = some d ∧ w.cell? ⟨G, 4, none⟩ = some e ∧ w.cell? ⟨G, 5, none⟩ = some f ∧ w.cell? ⟨G, 6, none⟩ = some g ∧ w.cell? ⟨G, 7, none⟩ = some i :=
  ⟨h.cell 0, h.cell 1, h.cell 2, h.cell 3, h.cell 4, h.cell 5, h.cell 6, h.cell 7⟩

/-- The cells that the last sentence reads. -/
def SNil (F XB YB : Nat) (d now : Int) (n : ByteArray) (t c : Int) (a : Option Addr) (dl cap : Nat) (ttl rk : Int) (w' : World) : Prop :=
  (w'.cell? ⟨F, 0, none⟩ = some (.int .i64 d) ∧ w'.cell? ⟨F, 1, none⟩ = some (.int .i64 now) ∧ w'.cell? ⟨F, 2, none⟩ = some (.string n) ∧ w'.cell? ⟨F, 3, none⟩ = some (.int .i64 t) ∧ w'.cell? ⟨F, 4, none⟩ = some (.int .i64 c) ∧ w'.cell? ⟨F, 5, none⟩ = some (.slice a dl cap) ∧ w'.cell? ⟨F, 6, none⟩ = some (.int .i64 ttl) ∧ w'.cell? ⟨F, 7, none⟩ = some (.int .i64 rk)) ∧ (w'.cell? ⟨XB, 0, none⟩ = some (.string ⟨#[]⟩) ∧ w'.cell? ⟨XB, 1, none⟩ = some (.int .i64 0) ∧ w'.cell? ⟨XB, 2, none⟩ = some (.int .i64 0) ∧ w'.cell? ⟨XB, 3, none⟩ = some (.slice none 0 0) ∧ w'.cell? ⟨XB, 4, none⟩ = some (.int .i64 0) ∧ w'.cell? ⟨XB, 5, none⟩ = some (.int .i64 0) ∧ w'.cell? ⟨XB, 6, none⟩ = some (.int .i64 0)) ∧ (w'.cell? ⟨YB, 0, none⟩ = some (.string ⟨#[]⟩) ∧ w'.cell? ⟨YB, 1, none⟩ = some (.int .i64 0) ∧ w'.cell? ⟨YB, 2, none⟩ = some (.int .i64 0) ∧ w'.cell? ⟨YB, 3, none⟩ = some (.slice none 0 0) ∧ w'.cell? ⟨YB, 4, none⟩ = some (.int .i64 0) ∧ w'.cell? ⟨YB, 5, none⟩ = some (.int .i64 0) ∧ w'.cell? ⟨YB, 6, none⟩ = some (.int .i64 0))
theorem SNil.mk {F XB YB : Nat} {d now : Int} {n : ByteArray} {t c : Int} {a : Option Addr} {dl cap : Nat} {ttl rk : Int} {w' : World} {t1 t2 t3 : TypeId} (h1 : Blk w' F #[.int .i64 d, .int .i64 now, .string n, .int .i64 t, .int .i64 c, .slice a dl cap, .int .i64 ttl, .int .i64 rk] t1) (h2 : Blk w' XB #[.string ⟨#[]⟩, .int .i64 0, .int .i64 0, .slice none 0 0, .int .i64 0, .int .i64 0, .int .i64 0] t2) (h3 : Blk w' YB #[.string ⟨#[]⟩, .int .i64 0, .int .i64 0, .slice none 0 0, .int .i64 0, .int .i64 0, .int .i64 0] t3) : SNil F XB YB d now n t c a dl cap ttl rk w' :=
  ⟨h1.eight, h2.seven.1, h3.seven.1⟩
end Go.Proofs.Ytdlaepfnogmebaa
