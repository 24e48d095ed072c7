/- A store, or none: what each call comes to, in the words of the document's store. No condition but lengths. -/
import Derived.Test.YtdlaepfnogmebaaStoQ
import Derived.Test.YtdlaepfnogmebaaLStoreNil
namespace Go.Proofs.Ytdlaepfnogmebaa
open Go.RowKit

/-- A store that was made, or none. -/
def SX (XG : Nat → Prop) (w : World) (vp : Value) (p m : Nat) (s : Sto) : Prop := (vp = .pointer (some ⟨p, 0, none⟩) ∧ SAt XG w p m s) ∨ (vp = .pointer none ∧ s = ⟨0, [], 0⟩)
variable {XG : Nat → Prop}
theorem SX.keeps {w w' : World} {vp : Value} {p m : Nat} {s : Sto} (h : SX XG w vp p m s) (k : Keeps w w') : SX XG w' vp p m s := by
  rcases h with ⟨h1, h2⟩ | h
  · exact .inl ⟨h1, h2.keeps k⟩
  · exact .inr h
theorem SX.form {w : World} {vp : Value} {p m : Nat} {s : Sto} (h : SX XG w vp p m s) : ∃ a, vp = .pointer a := by
  rcases h with ⟨h1, h2⟩ | h
  · exact ⟨_, h1⟩
  · exact ⟨_, h.1⟩
theorem SX.ok {w : World} {vp : Value} {p m : Nat} {s : Sto} (h : SX XG w vp p m s) : (Sto.keysL s.items).Nodup ∧ (s.room = 0 ∨ (1 ≤ s.room ∧ s.room ≤ 1000 ∧ (s.items.length : Int) ≤ s.room)) ∧ 0 ≤ s.changes ∧ (∀ i ∈ s.items, ItFine i) ∧ s.items.length ≤ 1000 := by
  rcases h with ⟨h1, h2⟩ | ⟨h1, rfl⟩
  · have h3 := h2.ok
    refine ⟨h3.nodup, .inr ⟨h3.room.1, h3.room.2, h3.len⟩, h3.count, h3.fine, ?_⟩
    have h4 := h3.len
    have h5 := h3.room
    omega
  · exact ⟨by simp [Sto.keysL], .inl rfl, by decide, fun i hi => (by cases hi), by simp⟩
/-- Blocks that it does not use turn. -/
theorem SX.other {w w' : World} {vp : Value} {p m : Nat} {s : Sto} (h : SX XG w vp p m s) (hs : w.heap.size ≤ w'.heap.size) (hk : ∀ k, k < w.heap.size → ¬ XG k → w'.heap[k]? = w.heap[k]?) (hp : vp ≠ .pointer none → ¬ XG p ∧ ¬ XG m) : SX XG w' vp p m s := by
  rcases h with ⟨h1, h2⟩ | h
  · have hn := hp (by rw [h1]; simp)
    exact .inl ⟨h1, h2.other hs hk hn.1 hn.2⟩
  · exact .inr h
/-- What a call on it leaves: all, if there is none; else all but its two blocks. -/
def KX (vp : Value) (p m : Nat) (w w' : World) : Prop := (vp = .pointer none → Keeps w w') ∧ KB p m w w'
theorem KX.ofNil {w w' : World} {p m : Nat} (k : Keeps w w') : KX (.pointer none) p m w w' := ⟨fun _ => k, KB.of k⟩
theorem KX.ofMade {w w' : World} {p m : Nat} {a : Addr} (k : KB p m w w') : KX (.pointer (some a)) p m w w' := ⟨fun e => (by cases e), k⟩
theorem KX.below {vp : Value} {p m B : Nat} {w w' : World} (h : KX vp p m w w') (hp : vp ≠ .pointer none → B ≤ p ∧ B ≤ m) (hB : B ≤ w.heap.size) : Below B w w' := by
  by_cases hv : vp = .pointer none
  · have k := h.1 hv
    exact ⟨k.os, k.tape, k.output, k.size, fun i hi => k.block i (Nat.lt_of_lt_of_le hi hB)⟩
  · exact h.2.below (hp hv).1 (hp hv).2 hB
theorem KX.blk {vp : Value} {p m G : Nat} {w w' : World} {cs : Array Value} {ty : TypeId} (h : KX vp p m w w') (hb : Blk w G cs ty) (hG : vp ≠ .pointer none → G ≠ p ∧ G ≠ m) : Blk w' G cs ty := by
  by_cases hv : vp = .pointer none
  · exact hb.keeps (h.1 hv)
  · exact hb.kb (hG hv).1 (hG hv).2 h.2
theorem KX.row {vp : Value} {p m c : Nat} {w w' : World} {v : Value} {rows : List (List Value)} (h : KX vp p m w w') (hr : ReadRow w v c rows) (hv : vp ≠ .pointer none → Apart v p m) : ReadRow w' v c rows := by
  by_cases hn : vp = .pointer none
  · exact hr.keeps (h.1 hn)
  · exact hr.kb (hv hn) h.2
theorem KX.of {vp : Value} {p m : Nat} {w w' : World} (k : Keeps w w') : KX vp p m w w' := ⟨fun _ => k, KB.of k⟩
theorem KX.trans {vp : Value} {p m : Nat} {a b c : World} (h : KX vp p m a b) (k : KX vp p m b c) : KX vp p m a c := ⟨fun e => (h.1 e).trans (k.1 e), h.2.trans k.2⟩
/-- What the store is behind a Put. -/
def sput (s : Sto) (now : Int) (x : St) (rank : Int) : Sto := ⟨s.room, rputL s.room s.items now x rank, if rputE s.room s.items now x rank = 0 then s.changes + 1 else s.changes⟩
theorem sput_made {s : Sto} (h : 1 ≤ s.room) (now : Int) (x : St) (rank : Int) : rputE s.room s.items now x rank = Sto.putE s now x rank ∧ sput s now x rank = Sto.put s now x rank := by
  have h0 : ¬ s.room = 0 := by omega
  have e : rputE s.room s.items now x rank = Sto.putE s now x rank := by
    unfold rputE
    rw [if_neg h0]
    rfl
  refine ⟨e, ?_⟩
  unfold sput rputL Sto.put
  rw [e]
  by_cases h1 : Sto.putE s now x rank = 0
  · rw [if_pos h1, if_pos h1, if_pos h1]
  · rw [if_neg h1, if_neg h1, if_neg h1]
def PutXEnd (XG : Nat → Prop) (w : World) (vp : Value) (p m : Nat) (c : Int) (s' : Sto) (e : Ending) (w' : World) : Prop := e = .returned (.int .i64 c) ∧ SX XG w' vp p m s' ∧ KX vp p m w w'
theorem PutX_any (vp : Value) (p m : Nat) (s : Sto) (now : Int) (v : Value) (x : St) (rank : Int) (w : World) (h : SX XG w vp p m s) (hx : StAt w v x) (hf : StFine x) (hin : StIn x) (hd6 : x.ds.length ≤ 1000000) (hch : s.changes ≤ 1099511627776) :
    Calls Try.prog 15 #[vp, .int .i64 now, v, .int .i64 rank] w fun e w' => PutXEnd XG w vp p m (rputE s.room s.items now x rank) (sput s now x rank) e w' := by
  rcases h with ⟨rfl, h2⟩ | ⟨rfl, rfl⟩
  · obtain ⟨e1, e2⟩ := sput_made h2.ok.room.1 now x rank
    rw [e1, e2]
    refine (Put_any p m s now v x rank w hx hf hin h2 hd6 hch).mono ?_
    rintro e w' ⟨rfl, h3, h4⟩
    exact ⟨rfl, .inl ⟨rfl, h3⟩, KX.ofMade h4⟩
  · refine (Put_nil now v x rank w hx hf hin).mono ?_
    rintro e w' ⟨rfl, k⟩
    exact ⟨rfl, .inr ⟨rfl, rfl⟩, KX.ofNil k⟩
def GetXEnd (XG : Nat → Prop) (w : World) (vp : Value) (p m : Nat) (oi : Option It) (s' : Sto) (e : Ending) (w' : World) : Prop := ∃ vi, e = .returned (.tuple #[vi, .bool oi.isSome]) ∧ TellOk w' w.heap.size oi vi ∧ SX XG w' vp p m s' ∧ KX vp p m w w'
theorem GetX_any (vp : Value) (p m : Nat) (s : Sto) (now : Int) (q : Qn) (w : World) (h : SX XG w vp p m s) (hq : QnFine q) :
    Calls Try.prog 17 #[vp, .int .i64 now, .agg #[.string q.n, .int .i64 q.t, .int .i64 q.c]] w fun e w' => GetXEnd XG w vp p m (Sto.peek s now q) ⟨s.room, getL s.items now q, s.changes⟩ e w' := by
  rcases h with ⟨rfl, h2⟩ | ⟨rfl, rfl⟩
  · refine (Get_any p m s now q w h2 hq).mono ?_
    rintro e w' ⟨vi, h3, h4, h5, h6⟩
    refine ⟨vi, h3, h4, .inl ⟨rfl, ?_⟩, KX.ofMade h6⟩
    have e1 : Sto.get s now q = ⟨s.room, getL s.items now q, s.changes⟩ := by
      unfold Sto.get getL
      have : Sto.peek s now q = (Sto.find s.items q).filter (fun i => Ag.live now i.u) := rfl
      rw [this]
      cases (Sto.find s.items q).filter (fun i => Ag.live now i.u) <;> rfl
    rw [← e1]
    exact h5
  · refine (Get_nil now q w).mono ?_
    rintro e w' ⟨vi, h3, h4, k⟩
    exact ⟨vi, h3, h4, .inr ⟨rfl, rfl⟩, KX.ofNil k⟩
theorem PeekX_any (vp : Value) (p m : Nat) (s : Sto) (now : Int) (q : Qn) (w : World) (h : SX XG w vp p m s) (hq : QnFine q) :
    Calls Try.prog 21 #[vp, .int .i64 now, .agg #[.string q.n, .int .i64 q.t, .int .i64 q.c]] w fun e w' => PeekEnd w (Sto.peek s now q) e w' := by
  rcases h with ⟨rfl, h2⟩ | ⟨rfl, rfl⟩
  · exact Peek_any p m s now q w h2 hq
  · exact Peek_nil now q w
def DropXEnd (XG : Nat → Prop) (w : World) (vp : Value) (p m : Nat) (b : Bool) (s' : Sto) (e : Ending) (w' : World) : Prop := e = .returned (.bool b) ∧ SX XG w' vp p m s' ∧ KX vp p m w w'
theorem DropX_any (vp : Value) (p m : Nat) (s : Sto) (q : Qn) (w : World) (h : SX XG w vp p m s) (hq : QnFine q) (hch : s.changes ≤ 1099511627776) :
    Calls Try.prog 23 #[vp, .agg #[.string q.n, .int .i64 q.t, .int .i64 q.c]] w fun e w' => DropXEnd XG w vp p m (Sto.find s.items q).isSome ⟨s.room, Sto.without s.items q, if (Sto.find s.items q).isSome = true then s.changes + 1 else s.changes⟩ e w' := by
  rcases h with ⟨rfl, h2⟩ | ⟨rfl, rfl⟩
  · cases hb : (Sto.find s.items q).isSome
    · refine (Drop_none p m s q w h2 hq hb).mono ?_
      rintro e w' ⟨h3, h4, h5⟩
      have hw : Sto.without s.items q = s.items := by
        unfold Sto.without
        rw [List.filter_eq_self]
        intro i hi
        simp only [ne_eq, decide_not, Bool.not_eq_eq_eq_not, Bool.not_true, decide_eq_false_iff_not]
        intro e2
        have hn : Sto.find s.items q = none := by cases hfd : Sto.find s.items q with
          | none => rfl
          | some j => rw [hfd] at hb; cases hb
        rw [Sto.find_none] at hn
        exact hn (List.mem_map.2 ⟨i, hi, e2⟩)
      refine ⟨h3, .inl ⟨rfl, ?_⟩, KX.ofMade h5⟩
      rw [hw]
      exact h4
    · refine (Drop_some p m s q w h2 hq hb hch).mono ?_
      rintro e w' ⟨h3, h4, h5⟩
      exact ⟨h3, .inl ⟨rfl, h4⟩, KX.ofMade h5⟩
  · refine (Drop_nil q w).mono ?_
    rintro e w' ⟨rfl, k⟩
    exact ⟨rfl, .inr ⟨rfl, rfl⟩, KX.ofNil k⟩
theorem KeysX_any (vp : Value) (p m : Nat) (s : Sto) (w : World) (h : SX XG w vp p m s) : Calls Try.prog 25 #[vp] w fun e w' => REnd w 32 3 ((Sto.keysL s.items).map qnL) e w' := by
  rcases h with ⟨rfl, h2⟩ | ⟨rfl, rfl⟩
  · exact Keys_any p m s w h2
  · refine (Keys_nil w).mono ?_
    rintro e w' ⟨rfl, rfl⟩
    exact REnd.mk (OwnsR.nil _ _ _ _) (Keeps.refl _)
theorem ChangesX_any (vp : Value) (p m : Nat) (s : Sto) (w : World) (h : SX XG w vp p m s) : Calls Try.prog 27 #[vp] w fun e w' => e = .returned (.int .i64 s.changes) ∧ w' = w := by
  rcases h with ⟨rfl, h2⟩ | ⟨rfl, rfl⟩
  · exact Changes_any p m s w h2
  · exact Changes_nil w
end Go.Proofs.Ytdlaepfnogmebaa
