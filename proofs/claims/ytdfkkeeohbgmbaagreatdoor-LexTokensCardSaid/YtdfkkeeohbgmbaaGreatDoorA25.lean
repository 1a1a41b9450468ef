/- Package lex: what recut holds. -/
import Derived.Test.YtdfkkeeohbgmbaaGreatDoorA24
import Derived.Test.YtdfkkeeohbgmbaaGreatDoorRound
import Derived.BigRegionIn
namespace Go.Proofs.YtdfkkeeohbgmbaaGreatDoor
open Go.RowKit Lx

attribute [local go_sem] Oper.semAt_some

/-- What of recut's memory does not change. -/
def RC (w : World) (sh : Int) (ins : ByteArray) (x d : Nat) (v : Value) (W : World) : Prop :=
  Boxed W w.heap.size 23 v ∧ W.heap[w.heap.size + 1]? = some (.cells #[.int .i64 x, .int .i64 d, .string ins] 40 (0, 0)) ∧ Boxed W (w.heap.size + 3) 64 (.pointer (some ⟨w.heap.size + 2, 0, none⟩)) ∧ Boxed W (w.heap.size + 5) 64 (.pointer (some ⟨w.heap.size + 4, 0, none⟩)) ∧ Boxed W (w.heap.size + 6) 3 (.int .i64 sh)

/-- What recut has made. -/
def RO (w : World) (out : List Pc) (W : World) : Prop := ∃ vo, Boxed W (w.heap.size + 7) 23 vo ∧ W.ownsRow w.heap.size 59 3 vo out.length (pcsCells out) ∧ (vo = .slice none 0 0 ↔ out = [])

/-- What recut holds. -/
structure RI (w : World) (was now ins : ByteArray) (x d : Nat) (v : Value) (out : List Pc) (next : Nat) (fr tt : St) (W : World) : Prop where
  con : RC w ((now.size : Int) - was.size) ins x d v W
  to_ : CutB W (w.heap.size + 2) now tt.i tt.t tt.op
  fr_ : CutB W (w.heap.size + 4) was fr.i fr.t fr.op
  out_ : RO w out W
  next_ : Boxed W (w.heap.size + 8) 3 (.int .i64 next)
  env : Env W
  bel : Below w.heap.size w W

section
variable {w : World} {was now ins : ByteArray} {x d : Nat} {v : Value} {out : List Pc} {next : Nat} {fr tt : St} {W W' : World}

theorem RC.kept {sh : Int} (h : RC w sh ins x d v W) {row : Option Nat} (hg : W.grownBy W' row) (h0 : some w.heap.size ≠ row) (h1 : some (w.heap.size + 1) ≠ row) (h3 : some (w.heap.size + 3) ≠ row) (h5 : some (w.heap.size + 5) ≠ row) (h6 : some (w.heap.size + 6) ≠ row) : RC w sh ins x d v W' := by
  obtain ⟨a0, a1, a3, a5, a6⟩ := h
  exact ⟨a0.kept hg h0, (hg.block _ (Array.getElem?_eq_some_iff.1 a1).1 h1).trans a1, a3.kept hg h3, a5.kept hg h5, a6.kept hg h6⟩

theorem RO.kept (h : RO w out W) {row : Option Nat} (hg : W.grownBy W' row) (h7 : some (w.heap.size + 7) ≠ row) (hr : ∀ (r : Nat) (vo : Value), row = some r → W.ownsRow w.heap.size 59 3 vo out.length (pcsCells out) → vo.ownBlock ≠ some r) : RO w out W' := by
  obtain ⟨vo, h1, h2, h3⟩ := h
  refine ⟨vo, h1.kept hg h7, h2.kept hg ?_, h3⟩
  cases row with
  | none =>
    cases vo.ownBlock with
    | none => exact .inl rfl
    | some g => exact .inr (by simp)
  | some r => exact .inr (hr r vo rfl h2)

theorem not_own {b r : Nat} {n : Nat} {vo : Value} {xs : List Value} {o : Obj} (h : W.ownsRow b 59 3 vo n xs) (hb : W.heap[r]? = some o) (hne : ∀ cs fr, o ≠ .cells cs 59 fr) : vo.ownBlock ≠ some r := by
  rcases row_cells h hb hne with h | h
  · rw [h]; simp
  · exact h

theorem Env.grow {w w' : World} (h : Env w) {row : Option Nat} (hg : w.grownBy w' row) (h6 : ∀ r, row = some r → 6 ≤ r) : Env w' := by
  cases row with
  | none => exact h.below ⟨hg.os, hg.tape, hg.output, hg.size, fun k hk => hg.block k hk (by simp)⟩
  | some b => exact h.kept (h6 b rfl) hg

/-- Memory that is none of recut's own has changed. -/
theorem RI.kept (h : RI w was now ins x d v out next fr tt W) (h6 : 6 ≤ w.heap.size) {row : Option Nat} (hg : W.grownBy W' row) (hr : ∀ r, row = some r → w.heap.size + 9 ≤ r ∧ ∃ o, W.heap[r]? = some o ∧ ∀ cs fr, o ≠ .cells cs 59 fr) : RI w was now ins x d v out next fr tt W' := by
  have hne : ∀ b, b < w.heap.size + 9 → some b ≠ row := fun b hb e => by have := (hr b e.symm).1; omega
  refine ⟨h.con.kept hg (hne _ (by omega)) (hne _ (by omega)) (hne _ (by omega)) (hne _ (by omega)) (hne _ (by omega)), h.to_.kept hg (hne _ (by omega)), h.fr_.kept hg (hne _ (by omega)), h.out_.kept hg (hne _ (by omega)) ?_, h.next_.kept hg (hne _ (by omega)), h.env.grow hg (fun r e => by have := (hr r e).1; omega), h.bel.grown hg h.bel.size (fun r e => by have := (hr r e).1; omega)⟩
  intro r vo e ho
  obtain ⟨_, o, hb, hn⟩ := hr r e
  exact not_own ho hb hn

theorem RI.bl (h : RI w was now ins x d v out next fr tt W) (h6 : 6 ≤ w.heap.size) (hb : Below W.heap.size W W') : RI w was now ins x d v out next fr tt W' := h.kept h6 (grown_bl hb none) (fun r e => by cases e)

theorem RI.moved (h : RI w was now ins x d v out next fr tt W) (h6 : 6 ≤ w.heap.size) {tt' : St} (hg : W.grownBy W' (some (w.heap.size + 2))) (hc : CutB W' (w.heap.size + 2) now tt'.i tt'.t tt'.op) : RI w was now ins x d v out next fr tt' W' :=
  ⟨h.con.kept hg (by simp) (by simp) (by simp) (by simp) (by simp), hc, h.fr_.kept hg (by simp), h.out_.kept hg (by simp) (fun r vo e ho => by cases e; exact not_own ho h.to_ (by simp)), h.next_.kept hg (by simp), h.env.grow hg (fun r e => by cases e; omega), h.bel.grown hg h.bel.size (fun r e => by cases e; omega)⟩

theorem RI.followed (h : RI w was now ins x d v out next fr tt W) (h6 : 6 ≤ w.heap.size) {fr' : St} (hg : W.grownBy W' (some (w.heap.size + 4))) (hc : CutB W' (w.heap.size + 4) was fr'.i fr'.t fr'.op) : RI w was now ins x d v out next fr' tt W' :=
  ⟨h.con.kept hg (by simp) (by simp) (by simp) (by simp) (by simp), h.to_.kept hg (by simp), hc, h.out_.kept hg (by simp) (fun r vo e ho => by cases e; exact not_own ho h.fr_ (by simp)), h.next_.kept hg (by simp), h.env.grow hg (fun r e => by cases e; omega), h.bel.grown hg h.bel.size (fun r e => by cases e; omega)⟩

theorem RI.stepped (h : RI w was now ins x d v out next fr tt W) (h6 : 6 ≤ w.heap.size) : RI w was now ins x d v out (next + 1) fr tt (W.setCell ⟨w.heap.size + 8, 0, none⟩ (.int .i64 ((next : Int) + 1))) := by
  have hg := grownBy_setCell' W (w.heap.size + 8) (.int .i64 ((next : Int) + 1))
  exact ⟨h.con.kept hg (by simp) (by simp) (by simp) (by simp) (by simp), h.to_.kept hg (by simp), h.fr_.kept hg (by simp), h.out_.kept hg (by simp) (fun r vo e ho => by cases e; exact not_own ho h.next_ (by simp)), h.next_.set _, h.env.grow hg (fun r e => by cases e; omega), h.bel.setCell (p := ⟨w.heap.size + 8, 0, none⟩) (by simp) _⟩

/-- The append of recut. -/
theorem RI.more (h : RI w was now ins x d v out next fr tt W) (h6 : 6 ≤ w.heap.size) {p : Pc} {w1 : World} {vo v' : Value} {tmp : Obj} {ys : List Value}
    (hv : Boxed W (w.heap.size + 7) 23 vo) (hr : W.ownsRow w.heap.size 59 3 vo out.length (pcsCells out))
    (hown' : w1.ownsRow w.heap.size 59 3 v' (out.length + 1) ys) (hys : ys = pcsCells out ++ pcCells p) (hgrow : (W.alloc tmp).grownBy w1 vo.ownBlock) :
    RI w was now ins x d v (out ++ [p]) next fr tt (w1.setCell ⟨w.heap.size + 7, 0, none⟩ v') ∧ KeepsFrom (w.heap.size + 9) W (w1.setCell ⟨w.heap.size + 7, 0, none⟩ v') := by
  have hlt := hr.lt
  obtain ⟨hv1, hv2, hr2, hk2, hb2⟩ := hv.appended (by decide) hr h.bel.size (by omega) hown' hgrow
  obtain ⟨g', cap', hv'⟩ := ownsRow_succ hown'
  have far : ∀ {b : Nat} {o : Obj}, W.heap[b]? = some o → (∀ cs fr, o ≠ .cells cs 59 fr) → b ≠ w.heap.size + 7 → (w1.setCell ⟨w.heap.size + 7, 0, none⟩ v').heap[b]? = some o := fun {b o} hb hn hb7 => by
    have hlb : b < W.heap.size := (Array.getElem?_eq_some_iff.1 hb).1
    refine (Below.heap_setCell _ _ _ _ hb7).trans ((hgrow.block b (by rw [World.size_alloc]; omega) ?_).trans ((Below.heap_alloc _ _ _ hlb).trans hb))
    intro e; exact not_own hr hb hn e.symm
  obtain ⟨a0, a1, a3, a5, a6⟩ := h.con
  refine ⟨⟨⟨far a0 (by simp) (by omega), far a1 (by simp) (by omega), far a3 (by simp) (by omega), far a5 (by simp) (by omega), far a6 (by simp) (by omega)⟩, far h.to_ (by simp) (by omega), far h.fr_ (by simp) (by omega), ⟨v', hv2, ?_, by rw [hv']; simp⟩, far h.next_ (by simp) (by omega), h.env.low (hb2.mono h6), h.bel.trans hb2⟩, hk2.from _⟩
  rw [pcsCells_app, List.length_append]
  subst hys
  simpa [pcsCells] using hr2
end


/-- How recut ends. -/
def RecEnd (l : Bs) (base : Nat) (e : Ending) (W : World) : Prop :=
  (∃ vo ps, qFrom l ⟨0, 0, false⟩ = (ps, none) ∧ e = .returned vo ∧ W.ownsRow base 59 3 vo ps.length (pcsCells ps) ∧ (vo = .slice none 0 0 ↔ ps = [])) ∨
  (∃ ps er i, qFrom l ⟨0, 0, false⟩ = (ps, some (er, i)) ∧ e = refusal er i)

/-- What stands in the old pieces' row. -/
theorem old_read {w : World} {v : Value} {old : List Pc} (h : PnRead w v (old.map Pc.n)) : ∃ a c, v = .slice a old.length c ∧ old.length ≤ c ∧ ∀ (k : Nat) (p : Pc), old[k]? = some p → ∃ g o, a = some ⟨g, o, none⟩ ∧ g < w.heap.size ∧ w.cell? ⟨g, o + k * 3, none⟩ = some (.int .i64 p.kind) ∧ w.cell? ⟨g, o + k * 3 + 1, none⟩ = some (.int .i64 p.at_) ∧ w.cell? ⟨g, o + k * 3 + 2, none⟩ = some (.int .i64 p.len) := by
  obtain ⟨a, c, hv, hm, hr⟩ := h
  refine ⟨a, c, by rw [hv, List.length_map], by have := hm.2; rwa [List.length_map] at this, fun k p hk => ?_⟩
  obtain ⟨g, o, h1, h2, h3, h4, h5⟩ := hr k p.n (by rw [List.getElem?_map, hk]; rfl)
  exact ⟨g, o, h1, h2, h3, h4, h5⟩

/-- One step of a text without an error. -/
theorem fr_step {l : Bs} {old : List Pc} {k : Nat} {st : St} {p : Pc} (h : qFrom l st = (old.drop k, none)) (hp : old[k]? = some p) :
    st.i < l.length ∧ (qNext l st.i st.op).er = 0 ∧ ¬ (p.kind < 7 ∧ st.t = 6000) ∧ p = ⟨(qNext l st.i st.op).kind, st.i, (qNext l st.i st.op).len⟩ ∧ qFrom l (qAfter l st p.kind p.len) = (old.drop (k + 1), none) := by
  obtain ⟨hk, he⟩ := List.getElem?_eq_some_iff.1 hp
  rw [List.drop_eq_getElem_cons hk, he] at h
  exact qFrom_inv h
theorem fr_bound {l : Bs} {st : St} {p : Pc} (h1 : st.i < l.length) (h2 : (qNext l st.i st.op).er = 0) (h3 : p = ⟨(qNext l st.i st.op).kind, st.i, (qNext l st.i st.op).len⟩) : 1 ≤ p.len ∧ p.at_ = st.i ∧ st.i + p.len ≤ l.length ∧ p.kind ≤ 8 := by
  have := qNext_len l st.i st.op h1 h2
  subst h3; exact ⟨this.1, rfl, this.2.1, this.2.2⟩
theorem qAfter_t {l : Bs} {st : St} {k n : Nat} (h : st.t ≤ 6000) (h2 : ¬ (k < 7 ∧ st.t = 6000)) : (qAfter l st k n).t ≤ 6000 := by
  unfold qAfter; split
  · show st.t + 1 ≤ 6000; omega
  · exact h

/-- The cutter of the new text goes on as the old one did. -/
theorem to_step {l l' : Bs} {st tt : St} {p : Pc} (h2 : (qNext l st.i st.op).er = 0) (h3 : p = ⟨(qNext l st.i st.op).kind, st.i, (qNext l st.i st.op).len⟩) (hq : qNext l' tt.i tt.op = qNext l st.i st.op) (hl : tt.i < l'.length) (ht : ¬ (p.kind < 7 ∧ tt.t = 6000)) :
    qFrom l' tt = (⟨p.kind, tt.i, p.len⟩ :: (qFrom l' (qAfter l' tt p.kind p.len)).1, (qFrom l' (qAfter l' tt p.kind p.len)).2) := by
  have := qFrom_cons l' tt hl (by rw [hq]; exact h2) (by rw [hq]; subst h3; exact ht)
  rw [hq] at this
  subst h3; exact this
theorem to_many {l l' : Bs} {st tt : St} {p : Pc} (h2 : (qNext l st.i st.op).er = 0) (h3 : p = ⟨(qNext l st.i st.op).kind, st.i, (qNext l st.i st.op).len⟩) (hq : qNext l' tt.i tt.op = qNext l st.i st.op) (hl : tt.i < l'.length) (hk : p.kind < 7) (ht : tt.t = 6000) :
    qFrom l' tt = ([], some (2, tt.i)) := by
  refine qFrom_many l' tt hl (by rw [hq]; exact h2) ?_ ht
  rw [hq]; subst h3; exact hk

theorem take_succ' {α : Type} {xs : List α} {k : Nat} {p : α} (h : xs[k]? = some p) : xs.take (k + 1) = xs.take k ++ [p] := by
  rw [List.take_add_one, h]; rfl
end Go.Proofs.YtdfkkeeohbgmbaaGreatDoor
