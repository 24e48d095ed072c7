/- What join of layer 5 answers, for every data taken apart. -/
import Derived.Test.YthoominldliphaaDataWalk1
import Derived.Test.YthoominldliphaaJoin
import Derived.Deep.RegionHeld3
namespace Go.Proofs.Ythoominldliphaa
open Go.RowKit

/-- Data taken apart, as a value in the world w. -/
def PtAt (w : World) (v : Value) (x : Dt.Pt) : Prop := ∃ u, v = .agg #[.string ⟨x.a.toArray⟩, u, .string ⟨x.b.toArray⟩] ∧ ReadS w u x.ns
theorem PtAt.mk {w : World} {u : Value} {x : Dt.Pt} (A B : ByteArray) (hA : bl A = x.a) (hB : bl B = x.b) (h : ReadS w u x.ns) : PtAt w (.agg #[.string A, u, .string B]) x :=
  ⟨u, by rw [← hA, ← hB]; simp [bl], h⟩
theorem PtAt.keeps {w w' : World} {v : Value} {x : Dt.Pt} (h : PtAt w v x) (k : Keeps w w') : PtAt w' v x := by
  obtain ⟨u, rfl, h⟩ := h
  exact ⟨u, rfl, h.keeps k⟩

def joinP (x : Dt.Pt) : ByteArray := ⟨x.join.toArray⟩
theorem bl_joinP (x : Dt.Pt) : bl (joinP x) = x.join := bl_mk _

/-- The three cells of data that was boxed in block B, in a world behind W. -/
def Three (W : World) (B : Nat) (p q r u : Value) (ns : List (List UInt8)) (w : World) : Prop :=
  w.cell? ⟨B, 0, none⟩ = some p ∧ w.cell? ⟨B, 1, none⟩ = some q ∧ w.cell? ⟨B, 2, none⟩ = some r ∧ B < w.heap.size ∧ ReadS w u ns ∧ Keeps W w
theorem Three.keeps {W : World} {B : Nat} {p q r u : Value} {ns : List (List UInt8)} {w w' : World} (h : Three W B p q r u ns w) (hk : Keeps w w') : Three W B p q r u ns w' :=
  ⟨(hk.cell (p := ⟨B, 0, none⟩) h.2.2.2.1).trans h.1, (hk.cell (p := ⟨B, 1, none⟩) h.2.2.2.1).trans h.2.1, (hk.cell (p := ⟨B, 2, none⟩) h.2.2.2.1).trans h.2.2.1, Nat.lt_of_lt_of_le h.2.2.2.1 hk.size, h.2.2.2.2.1.keeps hk, h.2.2.2.2.2.trans hk⟩
theorem Three.made (w : World) (p q r u : Value) (ns : List (List UInt8)) (t : TypeId) (h : ReadS w u ns) : Three w w.heap.size p q r u ns (w.alloc (.cells #[p, q, r] t)) := by
  refine ⟨?_, ?_, ?_, by simp, h.keeps ((Keeps.refl _).alloc _), (Keeps.refl _).alloc _⟩
  · exact (World.cell?_alloc_mark w _ _ (0, 0) 0).trans rfl
  · exact (World.cell?_alloc_mark w _ _ (0, 0) 1).trans rfl
  · exact (World.cell?_alloc_mark w _ _ (0, 0) 2).trans rfl

set_option maxHeartbeats 800000 in
theorem join_any (v : Value) (x : Dt.Pt) (w : World) (h : PtAt w v x) (hn : x.ns.length ≤ 1000000) (hl : x.join.length ≤ 1000000) :
    Calls Try.prog 41 #[v] w fun e w' => e = .returned (.string (joinP x)) ∧ Keeps w w' := by
  obtain ⟨u, rfl, hu⟩ := h
  have hl2 := hl
  simp only [Dt.Pt.join, List.length_append] at hl2
  have HJ : Hid (joinP x = ⟨x.a.toArray⟩ ++ ⟨x.ns.flatten.toArray⟩ ++ ⟨x.b.toArray⟩) := by
    apply bl_inj
    rw [bl_joinP, bl_append, bl_append, bl_mk, bl_mk, bl_mk]
    rfl
  have hsa : (⟨x.a.toArray⟩ : ByteArray).size = x.a.length := by rw [← bl_length, bl_mk]
  have hsb : (⟨x.b.toArray⟩ : ByteArray).size = x.b.length := by rw [← bl_length, bl_mk]
  have hsn : (⟨x.ns.flatten.toArray⟩ : ByteArray).size = x.ns.flatten.length := by rw [← bl_length, bl_mk]
  have hJ := fun w h => strings_join u x.ns w h hn (by omega)
  have h1 : ∀ w, (Op.stringOp .add (⟨x.a.toArray⟩ : ByteArray) ⟨x.ns.flatten.toArray⟩).run Try.prog w = .ok (.string (⟨x.a.toArray⟩ ++ ⟨x.ns.flatten.toArray⟩)) w := fun w => run_string_add_sum w _ _ (by omega)
  have h2 : ∀ w, (Op.stringOp .add (⟨x.a.toArray⟩ ++ ⟨x.ns.flatten.toArray⟩ : ByteArray) ⟨x.b.toArray⟩).run Try.prog w = .ok (.string (⟨x.a.toArray⟩ ++ ⟨x.ns.flatten.toArray⟩ ++ ⟨x.b.toArray⟩)) w := fun w => run_string_add_sum w _ _ (by rw [ByteArray.size_append]; omega)
  generalize (⟨x.a.toArray⟩ : ByteArray) = A at *
  generalize (⟨x.b.toArray⟩ : ByteArray) = B at *
  generalize (⟨x.ns.flatten.toArray⟩ : ByteArray) = C at *
  have T0 := Three.made w (.string A) u (.string B) u x.ns 63 hu
  generalize hB : w.heap.size = G at T0
  go_enter Try.func41, Try.ntmps41
  go_wp2_with fail
  generalize w.alloc (.cells #[.string A, u, .string B] 63) = W at *
  clear hB
  have T1 := T0.keeps (Keeps.refl W).drew
  go_region_held3 (fun w' => w'.cell? ⟨G, 0, none⟩ = some (.string A) ∧ w'.cell? ⟨G, 1, none⟩ = some u ∧ w'.cell? ⟨G, 2, none⟩ = some (.string B) ∧ G < w'.heap.size ∧ ReadS w' u x.ns ∧ Keeps w w') ((first | exact T1 | exact Three.keeps (by assumption) (by assumption))) ((go_at_call 53; refine (hJ _ T1.2.2.2.2.1).mono ?_; rintro e w1 ⟨rfl, k1⟩))
  go_wp2
  go_ret
  exact ⟨ret_str HJ.out.symm, T1.2.2.2.2.2.trans k1⟩
end Go.Proofs.Ythoominldliphaa
