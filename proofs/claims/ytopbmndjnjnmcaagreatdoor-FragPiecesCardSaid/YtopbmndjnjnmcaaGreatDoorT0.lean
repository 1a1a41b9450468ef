/- Tokens in memory. -/
import Derived.Test.YtopbmndjnjnmcaaGreatDoorA21
namespace Go.Proofs.YtopbmndjnjnmcaaGreatDoor
open Go.RowKit Lx Go.Sort

/-- A token. -/
structure Tok where
  kind : Int
  num : Int
  text : ByteArray
  at_ : Int
  mark : Int
def tokC (t : Tok) : Array Value := #[.int .i64 t.kind, .int .i64 t.num, .string t.text, .int .i64 t.at_, .int .i64 t.mark]
def TokV (t : Tok) : Value := .agg (tokC t)
/-- Whether a token is valid. -/
def tokOk (t : Tok) : Bool := !((qKind t.text.data.toList : Int) == 0) && !((qKind t.text.data.toList : Int) != t.kind) && !(t.num != qValue (qKind t.text.data.toList) t.text.data.toList) && !(decide (t.at_ < 0)) && !(decide (t.mark < 0))
def tokEr (t : Tok) : Nat := if tokOk t = true then 0 else 14

/-- The cells of a token in memory. -/
theorem tok_cells {w : World} {g : Nat} {t : Tok} (h : w.heap[g]? = some (.cells (tokC t) 50 (0, 0))) :
    w.cell? ⟨g, 0, none⟩ = some (.int .i64 t.kind) ∧ w.cell? ⟨g, 1, none⟩ = some (.int .i64 t.num) ∧ w.cell? ⟨g, 2, none⟩ = some (.string t.text) ∧ w.cell? ⟨g, 3, none⟩ = some (.int .i64 t.at_) ∧ w.cell? ⟨g, 4, none⟩ = some (.int .i64 t.mark) := by
  refine ⟨?_, ?_, ?_, ?_, ?_⟩ <;> (rw [cell_of_row _ _ _ _ _ _ h]; rfl)

/-- A slice of tokens, to be read. -/
def TokRead (W : World) (v : Value) (ts : List Tok) : Prop :=
  ∃ a c, v = .slice a ts.length c ∧ (ts.length ≤ maxLen ∧ ts.length ≤ c) ∧ ∀ k t, ts[k]? = some t → ∃ g o, a = some ⟨g, o, none⟩ ∧ g < W.heap.size ∧
    W.cell? ⟨g, o + k * 5, none⟩ = some (.int .i64 t.kind) ∧ W.cell? ⟨g, o + k * 5 + 1, none⟩ = some (.int .i64 t.num) ∧ W.cell? ⟨g, o + k * 5 + 2, none⟩ = some (.string t.text) ∧ W.cell? ⟨g, o + k * 5 + 3, none⟩ = some (.int .i64 t.at_) ∧ W.cell? ⟨g, o + k * 5 + 4, none⟩ = some (.int .i64 t.mark)
theorem TokRead.bl {W W' : World} {v : Value} {ts : List Tok} (h : TokRead W v ts) (hb : Below W.heap.size W W') : TokRead W' v ts := by
  obtain ⟨a, c, hv, hm, h⟩ := h
  refine ⟨a, c, hv, hm, fun k t hk => ?_⟩
  obtain ⟨g, o, ha, hg, h0, h1, h2, h3, h4⟩ := h k t hk
  exact ⟨g, o, ha, Nat.lt_of_lt_of_le hg hb.size, (hb.cell (p := ⟨g, _, none⟩) hg).trans h0, (hb.cell (p := ⟨g, _, none⟩) hg).trans h1, (hb.cell (p := ⟨g, _, none⟩) hg).trans h2, (hb.cell (p := ⟨g, _, none⟩) hg).trans h3, (hb.cell (p := ⟨g, _, none⟩) hg).trans h4⟩

end Go.Proofs.YtopbmndjnjnmcaaGreatDoor
