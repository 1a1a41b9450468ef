/- Package lex: what recut holds. -/
import Derived.Test.YtopbmndjnjnmcaaGreatDoorA24
import Derived.Test.YtopbmndjnjnmcaaGreatDoorRound
import Derived.BigRegionIn
namespace Go.Proofs.YtopbmndjnjnmcaaGreatDoor
open Go.RowKit Lx

attribute [local go_sem] Oper.semAt_some

/-- What recut has made. -/
def RO (w : World) (out : List Pc) (W : World) : Prop := ∃ vo, Boxed W (w.heap.size + 7) 122 vo ∧ W.ownsRow w.heap.size 127 3 vo out.length (pcsCells out) ∧ (vo = .slice none 0 0 ↔ out = [])

section
variable {w : World} {was now ins : ByteArray} {x d : Nat} {v : Value} {out : List Pc} {next : Nat} {fr tt : St} {W W' : World}

theorem RO.kept (h : RO w out W) {row : Option Nat} (hg : W.grownBy W' row) (h7 : some (w.heap.size + 7) ≠ row) (hr : ∀ (r : Nat) (vo : Value), row = some r → W.ownsRow w.heap.size 127 3 vo out.length (pcsCells out) → vo.ownBlock ≠ some r) : RO w out W' := by
  obtain ⟨vo, h1, h2, h3⟩ := h
  refine ⟨vo, h1.kept hg h7, h2.kept hg ?_, h3⟩
  cases row with
  | none =>
    cases vo.ownBlock with
    | none => exact .inl rfl
    | some g => exact .inr (by simp)
  | some r => exact .inr (hr r vo rfl h2)

theorem not_own {b r : Nat} {n : Nat} {vo : Value} {xs : List Value} {o : Obj} (h : W.ownsRow b 127 3 vo n xs) (hb : W.heap[r]? = some o) (hne : ∀ cs fr, o ≠ .cells cs 127 fr) : vo.ownBlock ≠ some r := by
  rcases row_cells h hb hne with h | h
  · rw [h]; simp
  · exact h

theorem Env.grow {w w' : World} (h : Env w) {row : Option Nat} (hg : w.grownBy w' row) (h6 : ∀ r, row = some r → 6 ≤ r) : Env w' := by
  cases row with
  | none => exact h.below ⟨hg.os, hg.tape, hg.output, hg.size, fun k hk => hg.block k hk (by simp)⟩
  | some b => exact h.kept (h6 b rfl) hg

end


/-- How recut ends. -/
def RecEnd (l : Bs) (base : Nat) (e : Ending) (W : World) : Prop :=
  (∃ vo ps, qFrom l ⟨0, 0, false⟩ = (ps, none) ∧ e = .returned vo ∧ W.ownsRow base 127 3 vo ps.length (pcsCells ps) ∧ (vo = .slice none 0 0 ↔ ps = [])) ∨
  (∃ ps er i, qFrom l ⟨0, 0, false⟩ = (ps, some (er, i)) ∧ e = refusal er i)

/-- What stands in the old pieces' row. -/
theorem old_read {w : World} {v : Value} {old : List Pc} (h : PnRead w v (old.map Pc.n)) : ∃ a c, v = .slice a old.length c ∧ old.length ≤ c ∧ ∀ (k : Nat) (p : Pc), old[k]? = some p → ∃ g o, a = some ⟨g, o, none⟩ ∧ g < w.heap.size ∧ w.cell? ⟨g, o + k * 3, none⟩ = some (.int .i64 p.kind) ∧ w.cell? ⟨g, o + k * 3 + 1, none⟩ = some (.int .i64 p.at_) ∧ w.cell? ⟨g, o + k * 3 + 2, none⟩ = some (.int .i64 p.len) := by
  obtain ⟨a, c, hv, hm, hr⟩ := h
  refine ⟨a, c, by rw [hv, List.length_map], by have := hm.2; rwa [List.length_map] at this, fun k p hk => ?_⟩
  obtain ⟨g, o, h1, h2, h3, h4, h5⟩ := hr k p.n (by rw [List.getElem?_map, hk]; rfl)
  exact ⟨g, o, h1, h2, h3, h4, h5⟩

/-- One step of a text without an error. -/
theorem fr_step {l : Bs} {old : List Pc} {k : Nat} {st : St} {p : Pc} (h : qFrom l st = (old.drop k, none)) (hp : old[k]? = some p) :
    st.i < l.length ∧ (qNext l st.i st.op).er = 0 ∧ ¬ (p.kind < 7 ∧ st.t = 6000) ∧ p = ⟨(qNext l st.i st.op).kind, st.i, (qNext l st.i st.op).len⟩ ∧ qFrom l (qAfter l st p.kind p.len) = (old.drop (k + 1), none) := by
  obtain ⟨hk, he⟩ := List.getElem?_eq_some_iff.1 hp
  rw [List.drop_eq_getElem_cons hk, he] at h
  exact qFrom_inv h
theorem fr_bound {l : Bs} {st : St} {p : Pc} (h1 : st.i < l.length) (h2 : (qNext l st.i st.op).er = 0) (h3 : p = ⟨(qNext l st.i st.op).kind, st.i, (qNext l st.i st.op).len⟩) : 1 ≤ p.len ∧ p.at_ = st.i ∧ st.i + p.len ≤ l.length ∧ p.kind ≤ 8 := by
  have := qNext_len l st.i st.op h1 h2
  subst h3; exact ⟨this.1, rfl, this.2.1, this.2.2⟩
theorem qAfter_t {l : Bs} {st : St} {k n : Nat} (h : st.t ≤ 6000) (h2 : ¬ (k < 7 ∧ st.t = 6000)) : (qAfter l st k n).t ≤ 6000 := by
  unfold qAfter; split
  · show st.t + 1 ≤ 6000; omega
  · exact h

/-- The cutter of the new text goes on as the old one did. -/
theorem to_step {l l' : Bs} {st tt : St} {p : Pc} (h2 : (qNext l st.i st.op).er = 0) (h3 : p = ⟨(qNext l st.i st.op).kind, st.i, (qNext l st.i st.op).len⟩) (hq : qNext l' tt.i tt.op = qNext l st.i st.op) (hl : tt.i < l'.length) (ht : ¬ (p.kind < 7 ∧ tt.t = 6000)) :
    qFrom l' tt = (⟨p.kind, tt.i, p.len⟩ :: (qFrom l' (qAfter l' tt p.kind p.len)).1, (qFrom l' (qAfter l' tt p.kind p.len)).2) := by
  have := qFrom_cons l' tt hl (by rw [hq]; exact h2) (by rw [hq]; subst h3; exact ht)
  rw [hq] at this
  subst h3; exact this
theorem to_many {l l' : Bs} {st tt : St} {p : Pc} (h2 : (qNext l st.i st.op).er = 0) (h3 : p = ⟨(qNext l st.i st.op).kind, st.i, (qNext l st.i st.op).len⟩) (hq : qNext l' tt.i tt.op = qNext l st.i st.op) (hl : tt.i < l'.length) (hk : p.kind < 7) (ht : tt.t = 6000) :
    qFrom l' tt = ([], some (2, tt.i)) := by
  refine qFrom_many l' tt hl (by rw [hq]; exact h2) ?_ ht
  rw [hq]; subst h3; exact hk

theorem take_succ' {α : Type} {xs : List α} {k : Nat} {p : α} (h : xs[k]? = some p) : xs.take (k + 1) = xs.take k ++ [p] := by
  rw [List.take_add_one, h]; rfl
end Go.Proofs.YtopbmndjnjnmcaaGreatDoor
