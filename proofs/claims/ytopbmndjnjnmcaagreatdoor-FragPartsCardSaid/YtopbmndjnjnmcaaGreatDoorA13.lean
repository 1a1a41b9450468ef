/- Package lex: the pieces of a text as lists. -/
import Derived.Test.YtopbmndjnjnmcaaGreatDoorA12
namespace Go.Proofs.YtopbmndjnjnmcaaGreatDoor
open Go.RowKit Lx

theorem qNestGo_le (l : Bs) (i op : Nat) : (qNestGo l i op).2 ≤ i + l.length := by
  induction l, i, op using qNestGo.induct with
  | case1 i a b t h => rw [qNestGo, if_pos h, if_pos rfl]; omega
  | case2 i op a b t h h2 ih => rw [qNestGo, if_pos h, if_neg h2]; simp only [List.length_cons] at ih ⊢; omega
  | case3 i a b t h h2 => rw [qNestGo, if_neg h, if_pos h2, if_pos rfl]; simp
  | case4 i op a b t h h2 h3 ih => rw [qNestGo, if_neg h, if_pos h2, if_neg h3]; simp only [List.length_cons] at ih ⊢; omega
  | case5 i op a b t h h2 ih => rw [qNestGo, if_neg h, if_neg h2]; simp only [List.length_cons] at ih ⊢; omega
  | case6 i op a => simp [qNestGo]
  | case7 i op => simp [qNestGo]

theorem indexByte_lt (l : Bs) (c : UInt8) : Lib.indexByte l c < (l.length : Int) + 1 := by
  induction l with
  | nil => simp [Lib.indexByte]
  | cons a t ih =>
    simp only [Lib.indexByte]; split
    · simp; omega
    · split
      · simp; omega
      · simp; omega

theorem qComment_le (l : Bs) : (qComment l).2 ≤ l.length := by
  unfold qComment; split
  · simp only; split
    · have := indexByte_lt l 10; omega
    · omega
  · split
    · have := qNestGo_le l 0 0; simpa [qNest] using this
    · simp

theorem qNext_len (l : Bs) (i : Nat) (op : Bool) (hi : i < l.length) (h : (qNext l i op).er = 0) : 1 ≤ (qNext l i op).len ∧ i + (qNext l i op).len ≤ l.length ∧ (qNext l i op).kind ≤ 8 := by
  have h1 := qComment_le (l.drop i)
  have h2 := qRun_le 7 (l.drop i)
  have h3 := qLongest_le ((l.drop i).take 100) op
  simp only [List.length_drop, List.length_take] at h1 h2 h3
  unfold qNext at h ⊢
  split
  · rename_i hc; rw [if_pos hc] at h; exact absurd h hc
  · split
    · simp only; omega
    · split
      · simp only; omega
      · split
        · rename_i a1 a2 a3 a4; rw [if_neg a1, if_neg a2, if_neg a3, if_pos a4] at h; exact absurd h a4
        · rename_i a1 a2 a3 a4
          simp only
          have h5 : qCheck l i (qLongest ((l.drop i).take 100) op).1 (qLongest ((l.drop i).take 100) op).2 = 0 := by simpa using a4
          refine ⟨?_, by omega, by omega⟩
          by_cases h6 : (qLongest ((l.drop i).take 100) op).2 = 0
          · exfalso
            rw [h6] at h5
            unfold qCheck at h5
            split at h5
            · cases h5
            · split at h5
              · cases h5
              · simp at h5
          · omega

/-- A piece. -/
structure Pc where
  kind : Nat
  at_ : Nat
  len : Nat
instance : DecidableEq Pc := fun p q => if h : p.kind = q.kind ∧ p.at_ = q.at_ ∧ p.len = q.len then isTrue (by cases p; cases q; simp_all) else isFalse (fun e => h (by subst e; exact ⟨rfl, rfl, rfl⟩))

/-- Where a cutter stands. -/
structure St where
  i : Nat
  t : Nat
  op : Bool

/-- The state behind a piece. -/
def qAfter (l : Bs) (x : St) (kind len : Nat) : St := if kind < 7 then ⟨x.i + len, x.t + 1, qOper l x.i kind⟩ else ⟨x.i + len, x.t, x.op⟩

/-- The pieces from a state on, and the error that ends them, with its place. -/
def qCutAll (l : Bs) : Nat → St → List Pc × Option (Nat × Nat)
  | 0, _ => ([], none)
  | n + 1, x =>
    if l.length ≤ x.i then ([], none)
    else if (qNext l x.i x.op).er ≠ 0 then ([], some ((qNext l x.i x.op).er, x.i))
    else if (qNext l x.i x.op).kind < 7 ∧ x.t = 6000 then ([], some (2, x.i))
    else (⟨(qNext l x.i x.op).kind, x.i, (qNext l x.i x.op).len⟩ :: (qCutAll l n (qAfter l x (qNext l x.i x.op).kind (qNext l x.i x.op).len)).1, (qCutAll l n (qAfter l x (qNext l x.i x.op).kind (qNext l x.i x.op).len)).2)

theorem qAfter_i (l : Bs) (x : St) (k n : Nat) : (qAfter l x k n).i = x.i + n := by unfold qAfter; split <;> rfl

theorem qCutAll_fuel (l : Bs) (n : Nat) : ∀ (x : St), l.length - x.i < n → ∀ m, n ≤ m → qCutAll l m x = qCutAll l n x := by
  induction n with
  | zero => intro x h; omega
  | succ n ih =>
    intro x h m hm
    obtain ⟨m, rfl⟩ : ∃ m', m = m' + 1 := ⟨m - 1, by omega⟩
    simp only [qCutAll]
    split
    · rfl
    · split
      · rfl
      · split
        · rfl
        · rename_i a1 a2 a3
          have hl := qNext_len l x.i x.op (by omega) (by simpa using a2)
          have := ih (qAfter l x (qNext l x.i x.op).kind (qNext l x.i x.op).len) (by rw [qAfter_i]; omega) m (by omega)
          rw [this]

/-- The pieces from a state on. -/
def qFrom (l : Bs) (x : St) : List Pc × Option (Nat × Nat) := qCutAll l (l.length - x.i + 1) x

theorem qFrom_end (l : Bs) (x : St) (h : l.length ≤ x.i) : qFrom l x = ([], none) := by
  unfold qFrom; simp only [qCutAll]; rw [if_pos h]
theorem qFrom_err (l : Bs) (x : St) (h : x.i < l.length) (he : (qNext l x.i x.op).er ≠ 0) : qFrom l x = ([], some ((qNext l x.i x.op).er, x.i)) := by
  unfold qFrom; simp only [qCutAll]; rw [if_neg (by omega), if_pos he]
theorem qFrom_many (l : Bs) (x : St) (h : x.i < l.length) (he : (qNext l x.i x.op).er = 0) (hk : (qNext l x.i x.op).kind < 7) (ht : x.t = 6000) : qFrom l x = ([], some (2, x.i)) := by
  unfold qFrom; simp only [qCutAll]; rw [if_neg (by omega), if_neg (by simp [he]), if_pos ⟨hk, ht⟩]
theorem qFrom_cons (l : Bs) (x : St) (h : x.i < l.length) (he : (qNext l x.i x.op).er = 0) (hk : ¬ ((qNext l x.i x.op).kind < 7 ∧ x.t = 6000)) :
    qFrom l x = (⟨(qNext l x.i x.op).kind, x.i, (qNext l x.i x.op).len⟩ :: (qFrom l (qAfter l x (qNext l x.i x.op).kind (qNext l x.i x.op).len)).1, (qFrom l (qAfter l x (qNext l x.i x.op).kind (qNext l x.i x.op).len)).2) := by
  have hl := qNext_len l x.i x.op h he
  unfold qFrom
  rw [show l.length - x.i + 1 = (l.length - x.i) + 1 from rfl, qCutAll, if_neg (by omega), if_neg (by simp [he]), if_neg hk]
  rw [qCutAll_fuel l (l.length - (qAfter l x (qNext l x.i x.op).kind (qNext l x.i x.op).len).i + 1) _ (by omega) (l.length - x.i) (by rw [qAfter_i]; omega)]

/-- The pieces of a text, or an error and its place. -/
def qPieces (l : Bs) : List Pc × Option (Nat × Nat) := if 20000 < l.length then ([], some (2, 0)) else qFrom l ⟨0, 0, false⟩
end Go.Proofs.YtopbmndjnjnmcaaGreatDoor
