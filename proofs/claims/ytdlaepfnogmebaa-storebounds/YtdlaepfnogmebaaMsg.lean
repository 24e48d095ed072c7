/- Plain functions on bytes: what layer 8 tells. Laws on slices of structs that a call itself makes. No condition. -/
import Derived.Test.YtdlaepfnogmebaaRec
import Derived.Test.YtdlaepfnogmebaaRecMay
namespace Go.Proofs.Ytdlaepfnogmebaa
open Go.RowKit

/-- A question. -/
structure Qn where
  n : ByteArray
  t : Int
  c : Int
  deriving DecidableEq
/-- A message. -/
structure Ms where
  id : Int
  bits : Int
  qs : List Qn
  an : List Rec
  ns : List Rec
  ar : List Rec
  deriving DecidableEq
def noQn : Qn := ⟨⟨#[]⟩, 0, 0⟩
def noMs : Ms := ⟨0, 0, [], [], [], []⟩
def qnL (q : Qn) : List Value := [.string q.n, .int .i64 q.t, .int .i64 q.c]
def qnV (q : Qn) : Value := .agg #[.string q.n, .int .i64 q.t, .int .i64 q.c]
def recL8 (r : Rec) : List Value := [.string r.n, .int .i64 r.t, .int .i64 r.c, .int .i64 r.l, .string r.d]

/-- What decoding one thing at a place answers. -/
structure D1 (α : Type) where
  x : α
  next : Nat
  e : Nat
structure DL (α : Type) where
  xs : List α
  next : Nat
  e : Nat
def decL {α : Type} (f : Nat → D1 α) : Nat → Nat → DL α
  | 0, p => ⟨[], p, 0⟩
  | k + 1, p => if (f p).e = 0 then (let r := decL f k (f p).next; if r.e = 0 then ⟨(f p).x :: r.xs, r.next, 0⟩ else ⟨[], 0, r.e⟩) else ⟨[], 0, (f p).e⟩
def pre {α : Type} (a : List α) (r : DL α) : DL α := if r.e = 0 then ⟨a ++ r.xs, r.next, 0⟩ else ⟨[], 0, r.e⟩
theorem pre_nil {α : Type} (f : Nat → D1 α) (k p : Nat) : pre [] (decL f k p) = decL f k p := by
  cases k with
  | zero => rfl
  | succ k =>
    simp only [decL]
    split
    · split
      · simp [pre]
      · rename_i h; simp [pre, h]
    · rename_i h; simp [pre, h]
theorem pre_step {α : Type} (f : Nat → D1 α) (a : List α) (k p : Nat) (h : (f p).e = 0) : pre a (decL f (k + 1) p) = pre (a ++ [(f p).x]) (decL f k (f p).next) := by
  simp only [decL, if_pos h]
  by_cases h2 : (decL f k (f p).next).e = 0
  · simp [pre, h2]
  · simp [pre, h2]
theorem pre_bad {α : Type} (f : Nat → D1 α) (a : List α) (k p : Nat) (h : ¬ (f p).e = 0) : pre a (decL f (k + 1) p) = ⟨[], 0, (f p).e⟩ := by
  simp [decL, if_neg h, pre]
theorem pre_end {α : Type} (f : Nat → D1 α) (a : List α) (p : Nat) : pre a (decL f 0 p) = ⟨a, p, 0⟩ := by simp [decL, pre]

def decQ (m : ByteArray) (p : Nat) : D1 Qn :=
  if (Cm.readL (bl m) p).e = 0 then
    (if (Cm.readL (bl m) p).next + 4 ≤ m.size then ⟨⟨rrS (Cm.readL (bl m) p), Oct.getN m (Cm.readL (bl m) p).next 2, Oct.getN m ((Cm.readL (bl m) p).next + 2 : Nat) 2⟩, (Cm.readL (bl m) p).next + 4, 0⟩ else ⟨noQn, 0, 2⟩)
  else ⟨noQn, 0, (Cm.readL (bl m) p).e⟩
def decR1 (m : ByteArray) (p : Nat) : D1 Rec := ⟨(decR m p).r, (decR m p).next, (decR m p).e⟩
def num (m : ByteArray) (i : Nat) : Int := Oct.getN m (2 * i : Nat) 2
/-- What Decode answers: the message, and the error. -/
def decT (m : ByteArray) : Ms × Nat :=
  let q := decL (decQ m) (num m 2).toNat 12
  if q.e ≠ 0 then (noMs, q.e) else
  let a := decL (decR1 m) (num m 3).toNat q.next
  if a.e ≠ 0 then (noMs, a.e) else
  let n := decL (decR1 m) (num m 4).toNat a.next
  if n.e ≠ 0 then (noMs, n.e) else
  let r := decL (decR1 m) (num m 5).toNat n.next
  if r.e ≠ 0 then (noMs, r.e) else
  if r.next ≠ m.size then (noMs, 5) else (⟨num m 0, num m 1, q.xs, a.xs, n.xs, r.xs⟩, 0)
def decM (m : ByteArray) : Ms × Nat := if 65535 < m.size then (noMs, 6) else if m.size < 12 then (noMs, 2) else decT m

def qnOk (q : Qn) : Bool := Nm.okL (bl q.n) && num2 q.t && num2 q.c
def msOk (m : Ms) : Bool := num2 m.id && num2 m.bits && (num2 m.qs.length && m.qs.all qnOk) && (num2 m.an.length && m.an.all recOk) && (num2 m.ns.length && m.ns.all recOk) && (num2 m.ar.length && m.ar.all recOk)
def qnS (q : Qn) : ByteArray := q.n ++ Oct.putS q.t 2 ++ Oct.putS q.c 2
def headS (m : Ms) : ByteArray := Oct.putS m.id 2 ++ Oct.putS m.bits 2 ++ Oct.putS m.qs.length 2 ++ Oct.putS m.an.length 2 ++ Oct.putS m.ns.length 2 ++ Oct.putS m.ar.length 2
def baseS (m : Ms) : ByteArray := match m.qs with | [] => ⟨#[0]⟩ | q :: _ => q.n
def appQ (b : ByteArray) (l : List Qn) : ByteArray := l.foldl (fun b q => b ++ qnS q) b
def appR (base : ByteArray) : ByteArray → List Rec → ByteArray
  | b, [] => b
  | b, r :: l => if 65535 < b.size then b else appR base (b ++ encS base 12 r) l
/-- What Encode answers: the bytes, and the error. -/
def encT (m : Ms) : ByteArray := appR (baseS m) (appQ (headS m) m.qs) (m.an ++ m.ns ++ m.ar)
def encM (m : Ms) : ByteArray × Nat := if msOk m then (if 65535 < (encT m).size then (⟨#[]⟩, 6) else (encT m, 0)) else (⟨#[]⟩, 1)

theorem appR_long (base b : ByteArray) (l : List Rec) (h : 65535 < b.size) : appR base b l = b := by
  cases l with
  | nil => rfl
  | cons r l => rw [appR, if_pos h]
theorem appR_step (base b : ByteArray) (r : Rec) (l : List Rec) (h : ¬ 65535 < b.size) : appR base b (r :: l) = appR base (b ++ encS base 12 r) l := by rw [appR, if_neg h]
theorem appR_append (base : ByteArray) : ∀ (l k : List Rec) (b : ByteArray), appR base b (l ++ k) = appR base (appR base b l) k
  | [], k, b => rfl
  | r :: l, k, b => by
    by_cases h : 65535 < b.size
    · rw [appR_long base b _ h, appR_long base b (r :: l) h, appR_long base b k h]
    · rw [List.cons_append, appR_step base b _ _ h, appR_step base b _ _ h, appR_append base l k]

/-! ### Rows of structs -/
/-- The slice value v, in blocks from B on, holds these rows of c cells each. -/
def OwnsR (w : World) (B : Nat) (ty : TypeId) (c : Nat) (v : Value) (rows : List (List Value)) : Prop := w.ownsRow B ty c v rows.length rows.flatten ∧ ∀ r ∈ rows, r.length = c
theorem OwnsR.nil (w : World) (B : Nat) (ty : TypeId) (c : Nat) : OwnsR w B ty c (.slice none 0 0) [] := ⟨World.ownsRow_nil w B _ _, by simp⟩
theorem OwnsR.alloc {w : World} {B : Nat} {ty : TypeId} {c : Nat} {v : Value} {l : List (List Value)} (h : OwnsR w B ty c v l) (o : Obj) : OwnsR (w.alloc o) B ty c v l := ⟨World.ownsRow.alloc h.1 o, h.2⟩
theorem OwnsR.drew {w : World} {B : Nat} {ty : TypeId} {c : Nat} {v : Value} {l : List (List Value)} (h : OwnsR w B ty c v l) : OwnsR w.drew B ty c v l := ⟨World.ownsRow.drew h.1, h.2⟩
theorem OwnsR.below {w : World} {B : Nat} {ty : TypeId} {c : Nat} {v : Value} {l : List (List Value)} (h : OwnsR w B ty c v l) {w' : World} (hb : Below w.heap.size w w') : OwnsR w' B ty c v l := by
  refine ⟨⟨h.1.1, ?_⟩, h.2⟩
  rcases h.1.2 with hn | ⟨g, cap, cur, rfl, hB, hg, rest⟩
  · exact .inl hn
  · exact .inr ⟨g, cap, cur, rfl, hB, by rw [hb.block g (Array.getElem?_eq_some_iff.1 hg).1]; exact hg, rest⟩
theorem flat_get {c : Nat} : ∀ (rows : List (List Value)) (_ : ∀ r ∈ rows, r.length = c) (i j : Nat) (hi : i < rows.length), j < c → rows.flatten[i * c + j]? = rows[i][j]?
  | [], _, i, j, hi, _ => by simp at hi
  | r :: rows, h, 0, j, _, hj => by
    have := h r (by simp)
    simp [List.getElem?_append_left (show j < r.length by omega)]
  | r :: rows, h, i + 1, j, hi, hj => by
    have hr := h r (by simp)
    have e : (i + 1) * c + j = r.length + (i * c + j) := by rw [Nat.succ_mul, hr]; omega
    rw [List.flatten_cons, e, List.getElem?_append_right (by omega), Nat.add_sub_cancel_left]
    have := flat_get rows (fun x hx => h x (by simp [hx])) i j (by simpa using hi) hj
    simpa using this
theorem OwnsR.read {w : World} {B : Nat} {ty : TypeId} {c : Nat} {v : Value} {rows : List (List Value)} (h : OwnsR w B ty c v rows) : ReadRow w v c rows := by
  obtain ⟨h, hr⟩ := h
  rcases h.2 with ⟨rfl, hn⟩ | ⟨g, cap, cur, rfl, hB, hg, hc, _, hsz, htk⟩
  · have : rows = [] := List.length_eq_zero_iff.1 hn
    subst this
    exact ReadRow.nil
  · refine ⟨_, cap, rfl, hc, fun hp => ⟨g, 0, rfl, (Array.getElem?_eq_some_iff.1 hg).1, fun i hi j hj => ?_⟩⟩
    have hlen : i * c + j < rows.length * c := by
      have : (i + 1) * c ≤ rows.length * c := Nat.mul_le_mul_right _ hi
      rw [Nat.succ_mul] at this
      omega
    rw [← flat_get rows hr i j hi hj, ← htk, List.getElem?_take_of_lt hlen]
    simp [World.cell?, hg]
theorem OwnsR.form {w : World} {B : Nat} {ty : TypeId} {c : Nat} {v : Value} {l : List (List Value)} (h : OwnsR w B ty c v l) : ∃ a cap, v = .slice a l.length cap := by
  rcases h.1.2 with ⟨rfl, hn⟩ | ⟨g, cap, cur, rfl, _⟩
  · exact ⟨none, 0, by rw [hn]⟩
  · exact ⟨_, cap, rfl⟩
/-- All that is no row of this type stands as it stood. -/
def OthR (ty : TypeId) (w w' : World) : Prop := Lib.OthersKept ty none w w'

/-- 'l = append(l, x)', x a struct of c cells. -/
theorem wpList_appR (ty sty : TypeId) (c bytes : Nat) (z : Value) (w : World) {ops : Array Oper} {rest : List Oper} {o : Oper} {a : Act} {Q : Exit → Act → World → Prop}
    (hu : Try.prog.underlying sty = some (.slice ty)) (hinfo : (Try.prog.info? ty).map (fun i => (i.zero, i.size, i.bytes)) = some (some z, c, bytes)) (hz : z.cells.size = c) (hc0 : 0 < c)
    (hgd : o.guard = none) (s x : Operand)
    (ho : o.op = .call { callee := .builtin .append, args := #[s, x], argTypes := #[sty, sty] })
    (B : Nat) (v : Value) (l : List (List Value)) (hs : a.eval s = v) (hown : OwnsR w B ty c v l) (ad : Addr) (cp : Nat) (b : List Value) (hx : a.eval x = .slice (some ad) 1 cp)
    (hb : b.length = c) (hone : ∀ u ∈ b, u.oneCell' = true)
    (hcell : ∀ j u, b[j]? = some u → w.cell? (ad.add j) = some u) (hlen : l.length + 1 ≤ maxLen) (hbytes : (l.length + 1) * bytes ≤ 140737488355328) (hB : B ≤ w.heap.size)
    (h : ∀ v' w', OwnsR w' B ty c v' (l ++ [b]) → Below B w w' → OthR ty w w' → wpList Try.prog ops Q rest (a.put o.dst v') w') : wpList Try.prog ops Q (o :: rest) a w := by
  obtain ⟨i0, hi, hz0, hz1, hz2⟩ := info_parts hinfo
  refine wpList_append_own w hgd s x sty ho B ty i0 z c bytes hu hi hz0 hz1 hz2 hz hc0 v l.length l.flatten hs hown.1 ad 1 cp b hx (by omega) hcell hone hlen hbytes hB ?_
  intro v' w' h2 h3 _
  refine h v' w' ⟨?_, ?_⟩ (Below.grown (Below.refl _ _) h3 hB fun k hk => (World.ownsRow.lt hown.1 k hk).1) (Lib.OthersKept.grown (Lib.OthersKept.refl _ _ w) h3 (Lib.ownsRow_kind hown.1))
  · rw [List.length_append, List.flatten_append]
    simpa using h2
  · intro r hr
    rw [List.mem_append] at hr
    rcases hr with hr | hr
    · exact hown.2 r hr
    · simp at hr; subst hr; exact hb
theorem Try.infoQ : (Try.prog.info? 32).map (fun i => (i.zero, i.size, i.bytes)) = some (some (qnV noQn), 3, 32) := by kernel_rfl
theorem Try.infoRR : (Try.prog.info? 161).map (fun i => (i.zero, i.size, i.bytes)) = some (some (recV noRec), 5, 56) := by kernel_rfl
end Go.Proofs.Ytdlaepfnogmebaa
