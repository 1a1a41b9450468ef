/- Package lex: Change and the equality of pieces. -/
import Derived.Test.YtopbmndjnjnmcaaGreatDoorA21
import Derived.Test.YtopbmndjnjnmcaaGreatDoorEq
namespace Go.Proofs.YtopbmndjnjnmcaaGreatDoor
open Go.RowKit Lx

attribute [local go_sem] Oper.semAt_some
attribute [local go_sem ↓] pn_neq pn_guard

/-- A splice xs a value. -/
def SpV (x d : Int) (ins : ByteArray) : Value := .agg #[.int .i64 x, .int .i64 d, .string ins]

/-- Whether a splice fits a text. -/
def Fits (s : ByteArray) (x d : Int) : Prop := 0 ≤ x ∧ x ≤ s.size ∧ 0 ≤ d ∧ d ≤ s.size - x

/-- A text with a splice. -/
def spliced (s : ByteArray) (x d : Nat) (ins : ByteArray) : ByteArray := s.extract 0 x ++ ins ++ s.extract (x + d) s.size

/-- A piece with any numbers. -/
structure Pn where
  kind : Int
  at_ : Int
  len : Int
instance : DecidableEq Pn := fun p q => if h : p.kind = q.kind ∧ p.at_ = q.at_ ∧ p.len = q.len then isTrue (by cases p; cases q; simp_all) else isFalse (fun e => h (by subst e; exact ⟨rfl, rfl, rfl⟩))
def Pc.n (p : Pc) : Pn := ⟨p.kind, p.at_, p.len⟩
theorem Pc.n_inj {p q : Pc} (h : p.n = q.n) : p = q := by
  cases p; cases q; simp only [Pc.n, Pn.mk.injEq] at h; simp only [Pc.mk.injEq]; omega

/-- A slice of pieces, to be read. -/
def PnRead (W : World) (v : Value) (ps : List Pn) : Prop :=
  ∃ a c, v = .slice a ps.length c ∧ (ps.length ≤ maxLen ∧ ps.length ≤ c) ∧ ∀ k p, ps[k]? = some p → ∃ g o, a = some ⟨g, o, none⟩ ∧ g < W.heap.size ∧ W.cell? ⟨g, o + k * 3, none⟩ = some (.int .i64 p.kind) ∧ W.cell? ⟨g, o + k * 3 + 1, none⟩ = some (.int .i64 p.at_) ∧ W.cell? ⟨g, o + k * 3 + 2, none⟩ = some (.int .i64 p.len)

theorem PnRead.bl {W W' : World} {v : Value} {ps : List Pn} (h : PnRead W v ps) (hb : Below W.heap.size W W') : PnRead W' v ps := by
  obtain ⟨a, c, hv, hm, h⟩ := h
  refine ⟨a, c, hv, hm, fun k p hk => ?_⟩
  obtain ⟨g, o, ha, hg, h1, h2, h3⟩ := h k p hk
  exact ⟨g, o, ha, Nat.lt_of_lt_of_le hg hb.size, (hb.cell (p := ⟨g, _, none⟩) hg).trans h1, (hb.cell (p := ⟨g, _, none⟩) hg).trans h2, (hb.cell (p := ⟨g, _, none⟩) hg).trans h3⟩

theorem pn_read {W : World} {base n : Nat} {v : Value} {ps : List Pc} (h : W.ownsRow base 127 3 v n (pcsCells ps)) (hm : n ≤ maxLen) : PnRead W v (ps.map Pc.n) := by
  have hl := h.1
  rw [pcsCells_len] at hl
  have hn : ps.length = n := by omega
  rcases h.2 with ⟨rfl, h0⟩ | ⟨g, cap, cur, rfl, hg, hgb, hcp, _⟩
  · obtain rfl : ps = [] := List.eq_nil_of_length_eq_zero (by omega)
    exact ⟨none, 0, rfl, ⟨by simp, by simp⟩, fun k p hk => by simp at hk⟩
  · refine ⟨some ⟨g, 0, none⟩, cap, by rw [List.length_map, hn], ⟨by rw [List.length_map]; omega, by rw [List.length_map]; omega⟩, fun k p hk => ?_⟩
    rw [List.getElem?_map, Option.map_eq_some_iff] at hk
    obtain ⟨q, hq, rfl⟩ := hk
    obtain ⟨c0, c1, c2⟩ := owns_pc h hq
    exact ⟨g, 0, rfl, (Array.getElem?_eq_some_iff.1 hgb).1, by simpa [Pc.n] using c0, by simpa [Pc.n] using c1, by simpa [Pc.n] using c2⟩

theorem take_eq_succ {α : Type} {a b : List α} {k : Nat} {p : α} (h : a.take k = b.take k) (hp : a[k]? = some p) (hq : b[k]? = some p) : a.take (k + 1) = b.take (k + 1) := by
  rw [List.take_add_one, List.take_add_one, h, hp, hq]

end Go.Proofs.YtopbmndjnjnmcaaGreatDoor
