/- Package lex: value, and pieces that follow each other. -/
import Derived.Test.YtopbmndjnjnmcaaGreatDoorA18
namespace Go.Proofs.YtopbmndjnjnmcaaGreatDoor
open Go.RowKit Lx

attribute [local go_sem] Oper.semAt_some

theorem qB_kind (l : Bs) (op : Bool) (k : Nat) : (qB l op k).2 = 0 ∨ 1 ≤ (qB l op k).1 := by
  induction k with
  | zero => exact .inl rfl
  | succ k ih =>
    simp only [qB, qBetter]
    split
    · exact .inr (by simp)
    · exact ih

theorem qNext_kind (l : Bs) (i : Nat) (op : Bool) (hi : i < l.length) (h : (qNext l i op).er = 0) : 1 ≤ (qNext l i op).kind := by
  have hl := (qNext_len l i op hi h).1
  have hk := qB_kind ((l.drop i).take 100) op 6
  rw [qB_6] at hk
  unfold qNext at hl h ⊢
  split
  · rename_i hc; rw [if_pos hc] at h; exact absurd h hc
  · split
    · simp
    · split
      · simp
      · split
        · rename_i a1 a2 a3 a4; rw [if_neg a1, if_neg a2, if_neg a3, if_pos a4] at h; exact absurd h a4
        · rename_i a1 a2 a3 a4
          rw [if_neg a1, if_neg a2, if_neg a3, if_neg a4] at hl
          simp only at hl ⊢
          rcases hk with hk | hk
          · omega
          · exact hk

/-- Pieces that follow each other from an offset on. -/
def Follow (m : Nat) : Nat → List Pc → Prop
  | _, [] => True
  | a, p :: r => p.at_ = a ∧ 1 ≤ p.len ∧ a + p.len ≤ m ∧ 1 ≤ p.kind ∧ p.kind ≤ 8 ∧ Follow m (a + p.len) r
/-- Where they end. -/
def endAt : Nat → List Pc → Nat
  | a, [] => a
  | a, p :: r => endAt (a + p.len) r

theorem qCutAll_follow (l : Bs) (n : Nat) : ∀ x : St, l.length - x.i < n → x.i ≤ l.length → Follow l.length x.i (qCutAll l n x).1 ∧ ((qCutAll l n x).2 = none → endAt x.i (qCutAll l n x).1 = l.length) := by
  induction n with
  | zero => intro x h; omega
  | succ n ih =>
    intro x h hx
    simp only [qCutAll]
    split
    · exact ⟨trivial, fun _ => by simp only [endAt]; omega⟩
    · split
      · exact ⟨trivial, fun h => (by cases h)⟩
      · split
        · exact ⟨trivial, fun h => (by cases h)⟩
        · rename_i a1 a2 a3
          have hl := qNext_len l x.i x.op (by omega) (by simpa using a2)
          have hk := qNext_kind l x.i x.op (by omega) (by simpa using a2)
          have := ih (qAfter l x (qNext l x.i x.op).kind (qNext l x.i x.op).len) (by rw [qAfter_i]; omega) (by rw [qAfter_i]; omega)
          rw [qAfter_i] at this
          exact ⟨⟨rfl, hl.1, hl.2.1, hk, hl.2.2, this.1⟩, this.2⟩

theorem qPieces_follow (l : Bs) : Follow l.length 0 (qPieces l).1 ∧ ((qPieces l).2 = none → endAt 0 (qPieces l).1 = l.length) := by
  unfold qPieces; split
  · exact ⟨trivial, fun h => (by cases h)⟩
  · exact qCutAll_follow l _ ⟨0, 0, false⟩ (by simp) (by simp)

theorem Follow.get {m : Nat} : ∀ {ps : List Pc} {a : Nat}, Follow m a ps → ∀ {k : Nat} {p : Pc}, ps[k]? = some p → 1 ≤ p.len ∧ p.at_ + p.len ≤ m ∧ 1 ≤ p.kind ∧ p.kind ≤ 8
  | [], _, _, k, p, h => by simp at h
  | q :: r, a, ⟨h1, h2, h3, h4, h5, h6⟩, 0, p, h => by
    simp at h; subst h; exact ⟨h2, by omega, h4, h5⟩
  | q :: r, a, ⟨h1, h2, h3, h4, h5, h6⟩, k + 1, p, h => h6.get (by simpa using h)

theorem qPieces_big (l : Bs) (h : 20000 < l.length) : qPieces l = ([], some (2, 0)) := if_pos h
theorem qPieces_small (l : Bs) (h : (qPieces l).2 = none) : l.length ≤ 20000 := by
  by_cases h' : 20000 < l.length
  · rw [qPieces_big l h'] at h; cases h
  · omega
theorem qPieces_length (l : Bs) : (qPieces l).1.length ≤ 20000 := by
  by_cases h : 20000 < l.length
  · rw [qPieces_big l h]; simp
  · unfold qPieces; rw [if_neg h]
    have := qFrom_length l ⟨0, 0, false⟩; omega

theorem pcsCells_at : ∀ (ps : List Pc) (k : Nat) (p : Pc) (j : Nat), ps[k]? = some p → j < 3 → (pcsCells ps)[k * 3 + j]? = (pcCells p)[j]?
  | [], k, p, j, h, _ => by simp at h
  | q :: r, 0, p, j, h, hj => by
    simp at h; subst h
    simp only [pcsCells, Nat.zero_mul, Nat.zero_add]
    rw [List.getElem?_append_left (by simp [pcCells]; omega)]
  | q :: r, k + 1, p, j, h, hj => by
    simp only [pcsCells]
    rw [List.getElem?_append_right (by simp [pcCells]; omega)]
    have : (k + 1) * 3 + j - (pcCells q).length = k * 3 + j := by simp [pcCells]; omega
    rw [this]
    exact pcsCells_at r k p j (by simpa using h) hj

/-- The cells of a piece in a row of pieces. -/
theorem owns_pc {W : World} {base g n cap : Nat} {ps : List Pc} {k : Nat} {p : Pc} (h : W.ownsRow base 127 3 (.slice (some ⟨g, 0, none⟩) n cap) n (pcsCells ps)) (hk : ps[k]? = some p) :
    W.cell? ⟨g, k * 3, none⟩ = some (.int .i64 p.kind) ∧ W.cell? ⟨g, k * 3 + 1, none⟩ = some (.int .i64 p.at_) ∧ W.cell? ⟨g, k * 3 + 2, none⟩ = some (.int .i64 p.len) := by
  have hl := h.1
  rw [pcsCells_len] at hl
  have hlt : k < ps.length := by
    rcases Nat.lt_or_ge k ps.length with h' | h'
    · exact h'
    · rw [List.getElem?_eq_none h'] at hk; cases hk
  refine ⟨?_, ?_, ?_⟩
  · rw [h.cellAt _ (by omega)]; exact (pcsCells_at ps k p 0 hk (by omega))
  · rw [h.cellAt _ (by omega)]; exact (pcsCells_at ps k p 1 hk (by omega))
  · rw [h.cellAt _ (by omega)]; exact (pcsCells_at ps k p 2 hk (by omega))

/-- The first result of Atoi. -/
def qNum (l : Bs) : Int := match Lib.atoiAll l with | .ok v => v | .range => Lib.atoiSat l | _ => 0
def qValue (k : Nat) (l : Bs) : Int := if k = 2 then qNum l else 0

/-- **strconv.Atoi**, and what it returns besides. -/
theorem atoi_num (s : ByteArray) (hs : s.size ≤ 20000) (w : World) (he : Env w) :
    Calls Tryz.prog 130 #[.string s] w fun e w' => Below w.heap.size w w' ∧ ∃ x : Value, e = .returned (.tuple #[.int .i64 (qNum s.data.toList), x]) := by
  unfold qNum
  cases h : Lib.atoiAll s.data.toList with
  | ok v =>
    refine (Tryz.strconv_Atoi_ok s (by omega) v h w).mono ?_
    rintro e w' ⟨rfl, hw⟩
    refine ⟨?_, _, rfl⟩
    rcases hw with rfl | ⟨t, rfl⟩
    · exact Below.refl _ _
    · exact Lib.bytesWorld_below _ _ _
  | range =>
    obtain ⟨te, pe, hv⟩ := he.rng
    refine (Tryz.strconv_Atoi_range s (by omega) h _ w hv (.inr ⟨te, pe, rfl⟩)).mono ?_
    rintro e w' ⟨N, rfl, _, _, hb⟩
    exact ⟨hb, _, rfl⟩
  | _ =>
    obtain ⟨te, pe, hv⟩ := he.syn
    refine (Any.strconv_Atoi_syntax Tryz.laysC172 s (by omega) h _ w hv (.inr ⟨te, pe, rfl⟩)).mono ?_
    rintro e w' ⟨N, rfl, _, _, hb⟩
    exact ⟨hb, _, rfl⟩

set_option maxHeartbeats 1000000 in
/-- **value** -/
theorem value_any (k : Nat) (s : ByteArray) (hs : k = 2 → s.size ≤ 20000) (w : World) (he : Env w) :
    Calls Tryz.prog 111 #[.int .i64 k, .string s] w fun e w' => e = .returned (.int .i64 (qValue k s.data.toList)) ∧ Below w.heap.size w w' := by
  have HE := Lib.hid he
  clear he
  by_cases hk : k = 2
  · subst hk
    have hs' := hs rfl
    go_enter Tryz.func111, Tryz.ntmps111
    go_wp2_with fail
    refine (atoi_num s hs' _ HE.out).mono ?_
    rintro e w1 ⟨hb, x, rfl⟩
    go_wp2_with fail
    go_ret
    exact ⟨rfl, hb⟩
  · have hk' : ((k : Int) == 2) = false := by simp; omega
    have hv : qValue k s.data.toList = 0 := if_neg hk
    go_enter Tryz.func111, Tryz.ntmps111
    go_wp2_with fail
    go_ret
    exact ⟨by rw [hv]; rfl, Below.refl _ _⟩
end Go.Proofs.YtopbmndjnjnmcaaGreatDoor
