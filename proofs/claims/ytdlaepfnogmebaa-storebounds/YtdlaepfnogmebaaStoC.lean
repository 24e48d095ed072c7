/- 'append', with the block in which its answer lies. No condition. -/
import Derived.Test.YtdlaepfnogmebaaStoZ
import Derived.Test.YtdlaepfnogmebaaKeysA
import Derived.Test.YtdlaepfnogmebaaStoL
namespace Go.Proofs.Ytdlaepfnogmebaa
open Go.RowKit

/-- The block of a slice is that of another one, or new. -/
def SameOrNew (w : World) (v v' : Value) : Prop := ∀ a n c, v' = .slice (some a) n c → v.ownBlock = some a.block ∨ w.heap.size ≤ a.block
theorem append_blk {w : World} (B : Nat) (t ty e : TypeId) (i : TypeInfo) (z : Value) (size bytes : Nat) (ht : Try.prog.underlying t = some (.slice e)) (hi : Try.prog.info? e = some i) (hz : i.zero = some z)
    (hsize : i.size = size) (hby : i.bytes = bytes) (hzs : z.cells.size = size) (hsz : 0 < size) (v : Value) (n : Nat) (xs : List Value) (hown : w.ownsRow B e size v n xs)
    (a : Addr) (c : Nat) (news : List Value) (hl : news.length = 1 * size) (hnews : ∀ j u, news[j]? = some u → w.cell? (a.add j) = some u) (h1 : ∀ u ∈ news, u.oneCell' = true)
    (h63 : n + 1 ≤ maxLen) (hbytes : (n + 1) * bytes ≤ 140737488355328) {v' : Value} {w' : World} (hr : (Builtin.append_ #[t, t] ty #[v, .slice (some a) 1 c]).run Try.prog w = .ok v' w') : SameOrNew w v v' := by
  subst hsize
  subst hby
  have hsmall : n + 1 ≤ 9223372036854775807 := by simp only [maxLen] at h63; omega
  rcases hown.2 with ⟨rfl, rfl⟩ | ⟨g, cap, cur, rfl, hbg, hg, hnc, hcm, hcs, htake⟩
  · have h2 := run_append_nil (P := Try.prog) w t ty e i z ht hi hz a 1 c news hl hnews (by omega) (by omega) (by have hb := hbytes; simp only [Nat.zero_add] at hb; omega)
    rw [h2] at hr
    cases hr
    intro x m k e1
    simp only [Value.slice.injEq, Option.some.injEq] at e1
    obtain ⟨rfl, _⟩ := e1
    exact .inr (Nat.le_refl _)
  · by_cases hroom : n + 1 ≤ cap
    · have hfit : n * i.size + news.length ≤ cur.size := by rw [hl, hcs, ← Nat.add_mul]; exact Nat.mul_le_mul_right _ hroom
      have h2 := run_append_room (P := Try.prog) w t ty e i ht hi g n cap cur hg a 1 c news hl hnews h1 hroom hfit
      rw [h2] at hr
      cases hr
      intro x m k e1
      simp only [Value.slice.injEq, Option.some.injEq] at e1
      obtain ⟨rfl, _⟩ := e1
      exact .inl rfl
    · have holds : ∀ j u, xs[j]? = some u → w.cell? ((⟨g, 0, none⟩ : Addr).add j) = some u := World.ownsRow.cells hown rfl
      have h2 := run_append_grow (P := Try.prog) w t ty e i z ht hi hz ⟨g, 0, none⟩ n cap xs hown.1 holds a 1 c news hl hnews (by omega) (by omega) (growslice_fits (by omega) hbytes)
      rw [h2] at hr
      cases hr
      intro x m k e1
      simp only [Value.slice.injEq, Option.some.injEq] at e1
      obtain ⟨rfl, _⟩ := e1
      exact .inr (Nat.le_refl _)
/-- 'l = append(l, x)', each row of c cells; what turns, and where the answer lies. -/
theorem wpList_appRB (ty sty : TypeId) (c bytes : Nat) (z : Value) (w : World) {ops : Array Oper} {rest : List Oper} {o : Oper} {a : Act} {Q : Exit → Act → World → Prop}
    (hu : Try.prog.underlying sty = some (.slice ty)) (hinfo : (Try.prog.info? ty).map (fun i => (i.zero, i.size, i.bytes)) = some (some z, c, bytes)) (hz : z.cells.size = c) (hc0 : 0 < c)
    (hgd : o.guard = none) (s x : Operand)
    (ho : o.op = .call { callee := .builtin .append, args := #[s, x], argTypes := #[sty, sty] })
    (B : Nat) (v : Value) (l : List (List Value)) (hs : a.eval s = v) (hown : OwnsR w B ty c v l) (ad : Addr) (cp : Nat) (b : List Value) (hx : a.eval x = .slice (some ad) 1 cp)
    (hb : b.length = c) (hone : ∀ u ∈ b, u.oneCell' = true)
    (hcell : ∀ j u, b[j]? = some u → w.cell? (ad.add j) = some u) (hlen : l.length + 1 ≤ maxLen) (hbytes : (l.length + 1) * bytes ≤ 140737488355328) (hB : B ≤ w.heap.size)
    (h : ∀ v' w', OwnsR w' B ty c v' (l ++ [b]) → w.grownBy w' v.ownBlock → SameOrNew w v v' → wpList Try.prog ops Q rest (a.put o.dst v') w') : wpList Try.prog ops Q (o :: rest) a w := by
  obtain ⟨i0, hi, hz0, hz1, hz2⟩ := info_parts hinfo
  refine wpList_plain hgd fun K hK => ?_
  obtain ⟨v', w', hr, h2, h3, h4⟩ := run_append_own (P := Try.prog) w B sty o.type ty i0 z c bytes hu hi hz0 hz1 hz2 hz hc0 v l.length l.flatten hown.1 ad 1 cp b (by omega) hcell hone hlen hbytes hB
  have hsn := append_blk B sty o.type ty i0 z c bytes hu hi hz0 hz1 hz2 hz hc0 v l.length l.flatten hown.1 ad cp b (by omega) hcell hone hlen hbytes hr
  unfold Oper.wp execOp
  simp only [ho, resolve, invoke, builtin, Sem.run_bind, Sem.run_pure, Result.andThen_ok, List.map_toArray, List.map_cons, List.map_nil, hs, hx, hr]
  refine hK _ _ (h v' w' ⟨?_, fun r hr => ?_⟩ h3 hsn)
  · rw [List.length_append, List.flatten_append]
    simpa using h2
  · rw [List.mem_append, List.mem_singleton] at hr
    rcases hr with hr | rfl
    · exact hown.2 r hr
    · exact hb
theorem OwnsR.kbR {w w' : World} {B p m : Nat} {ty : TypeId} {c : Nat} {v : Value} {l : List (List Value)} (h : OwnsR w B ty c v l) (k : KB p m w w') (hp : p < B) (hm : m < B) : OwnsR w' B ty c v l := by
  refine ⟨⟨h.1.1, ?_⟩, h.2⟩
  rcases h.1.2 with hn | ⟨g, cap, cur, rfl, hB, hg, rest⟩
  · exact .inl hn
  · exact .inr ⟨g, cap, cur, rfl, hB, by rw [k.block g (Array.getElem?_eq_some_iff.1 hg).1 (by omega) (by omega)]; exact hg, rest⟩
theorem OwnsR.ownLt {w : World} {B : Nat} {ty : TypeId} {c : Nat} {v : Value} {l : List (List Value)} (h : OwnsR w B ty c v l) {g : Nat} (hg : v.ownBlock = some g) : g < w.heap.size ∧ B ≤ g := by
  obtain ⟨a, cap, rfl⟩ := h.form
  cases a with
  | none => cases hg
  | some x =>
    have h1 := h.inw x _ _ rfl
    have h2 := h.above x _ _ rfl
    simp only [Value.ownBlock, Option.some.injEq] at hg
    subst hg
    exact ⟨h1, h2⟩
/-- The blocks of a slice. -/
def ofV (v : Value) : Nat → Prop := fun g => v.ownBlock = some g
end Go.Proofs.Ytdlaepfnogmebaa
