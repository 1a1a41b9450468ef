/- Package lex: a token and the byte behind it are no token. -/
import Derived.Test.YtdfkkeeohbgmbaaDoorA35
namespace Go.Proofs.YtdfkkeeohbgmbaaDoor
open Go.RowKit Lx

/-- Every piece is what next gives at its place. -/
theorem qFrom_mem (l : Bs) : ∀ (ps : List Pc) (x : St), qFrom l x = (ps, none) → ∀ (k : Nat) (p : Pc), ps[k]? = some p → ∃ op, p.at_ < l.length ∧ (qNext l p.at_ op).er = 0 ∧ (qNext l p.at_ op).kind = p.kind ∧ (qNext l p.at_ op).len = p.len := by
  intro ps
  induction ps with
  | nil => intro x _ k p hp; simp at hp
  | cons p0 r ih =>
    intro x h k p hp
    obtain ⟨a1, a2, a3, a4, a5⟩ := qFrom_inv h
    cases k with
    | zero =>
      simp at hp; subst hp
      exact ⟨x.op, by rw [a4]; exact a1, by rw [a4]; exact a2, by rw [a4], by rw [a4]⟩
    | succ k => exact ih _ a5 k p (by simpa using hp)

theorem qFrom_head (l : Bs) (x : St) (p : Pc) (h : (qFrom l x).1.head? = some p) : x.i < l.length ∧ (qNext l x.i x.op).er = 0 ∧ p = ⟨(qNext l x.i x.op).kind, x.i, (qNext l x.i x.op).len⟩ := by
  by_cases h1 : l.length ≤ x.i
  · rw [qFrom_end l x h1] at h; simp at h
  · by_cases h2 : (qNext l x.i x.op).er = 0
    · by_cases h3 : (qNext l x.i x.op).kind < 7 ∧ x.t = 6000
      · rw [qFrom_many l x (by omega) h2 h3.1 h3.2] at h; simp at h
      · rw [qFrom_cons l x (by omega) h2 h3] at h
        simp at h
        exact ⟨by omega, h2, h.symm⟩
    · rw [qFrom_err l x (by omega) h2] at h; simp at h

/-- A token is the longest match, and passes check. -/
theorem qNext_tok {l : Bs} {i : Nat} {op : Bool} (h0 : (qNext l i op).er = 0) (hk : (qNext l i op).kind < 7) :
    qLongest ((l.drop i).take 100) op = ((qNext l i op).kind, (qNext l i op).len) ∧ qCheck l i (qNext l i op).kind (qNext l i op).len = 0 := by
  by_cases c0 : (qComment (l.drop i)).1 = 0
  · by_cases hp : 0 < (qComment (l.drop i)).2
    · rw [qNext_a op c0 hp] at hk; simp at hk
    · by_cases hb : 0 < qRun 7 (l.drop i)
      · rw [qNext_b op c0 hp hb] at hk; simp at hk
      · have he := qNext_c op c0 hp hb
        by_cases hc : qCheck l i (qLongest ((l.drop i).take 100) op).1 (qLongest ((l.drop i).take 100) op).2 = 0
        · rw [if_neg (by simpa using hc)] at he
          rw [he]; exact ⟨rfl, hc⟩
        · rw [if_pos hc] at he
          rw [he] at h0; exact absurd h0 hc
  · exfalso; unfold qNext at h0; rw [if_pos c0] at h0; exact c0 h0

theorem qCheck_ok {l : Bs} {i k n : Nat} (h : qCheck l i k n = 0) : n ≤ 40 ∧ 1 ≤ n := by
  unfold qCheck at h
  split at h
  · cases h
  · split at h
    · cases h
    · split at h
      · cases h
      · split at h
        · cases h
        · omega

/-- What a kind says of the only piece. -/
theorem qKind_inv {u : Bs} (h : qKind u ≠ 0) : 0 < u.length ∧ (qNext u 0 false).er = 0 ∧ (qNext u 0 false).kind = qKind u ∧ (qNext u 0 false).kind < 7 ∧ (qNext u 0 false).len = u.length := by
  have hs := qKind_small u h
  have e : qPieces u = qFrom u ⟨0, 0, false⟩ := if_neg (by omega)
  unfold qKind at h ⊢
  rw [e] at h ⊢
  unfold kindOf at h ⊢
  cases hh : (qFrom u ⟨0, 0, false⟩).1.head? with
  | none => rw [hh] at h; simp at h
  | some p =>
    rw [hh] at h
    obtain ⟨a1, a2, a3⟩ := qFrom_head u _ p hh
    simp only at h a1 a2 a3 ⊢
    split at h
    · rename_i hc
      rw [if_pos hc]
      subst a3
      exact ⟨a1, a2, rfl, hc.1, hc.2⟩
    · exact absurd rfl h

/-- **Longest** -/
theorem kind_longest (l : Bs) (p : Pc) (k : Nat) (hp : (qScan l)[k]? = some p) (he : p.at_ + p.len < l.length) (hc : l[p.at_ + p.len]? ≠ some 58) (hx : ¬ (p.len = 1 ∧ l[p.at_]? = some 45)) :
    qKind ((l.drop p.at_).take (p.len + 1)) = 0 := by
  by_cases hz : qKind ((l.drop p.at_).take (p.len + 1)) = 0
  · exact hz
  · exfalso
    have hmem : p ∈ qScan l := List.mem_of_getElem? hp
    unfold qScan at hmem
    rw [List.mem_filter] at hmem
    obtain ⟨hg, ht⟩ := hmem
    unfold isTok at ht
    simp only [decide_eq_true_eq] at ht
    obtain ⟨k', hk'⟩ := List.getElem?_of_mem hg
    have hs := qGood_small l k' p hk'
    have hn : (qPieces l).2 = none := by
      unfold qGood at hg; split at hg
      · assumption
      · simp at hg
    rw [qGood_ok l hn] at hk'
    have e : qPieces l = qFrom l ⟨0, 0, false⟩ := if_neg (by omega)
    rw [e] at hk' hn
    obtain ⟨op, b1, b2, b3, b4⟩ := qFrom_mem l _ ⟨0, 0, false⟩ (Prod.ext rfl hn) k' p hk'
    obtain ⟨b5, b6⟩ := qNext_tok b2 (by omega)
    obtain ⟨b7, b8⟩ := qCheck_ok b6
    obtain ⟨c1, c2, c3, c4, c5⟩ := qKind_inv hz
    obtain ⟨c6, _⟩ := qNext_tok c2 c4
    rw [c5] at c6
    have hlen : ((l.drop p.at_).take (p.len + 1)).length = p.len + 1 := by simp; omega
    rw [b3, b4] at b5
    rw [b4] at b7 b8
    rw [hlen, List.drop_zero, List.take_of_length_le (by omega)] at c6
    have hr : (l.drop p.at_).take (p.len + 1) = ((l.drop p.at_).take 100).take (p.len + 1) := by rw [List.take_take, Nat.min_eq_left (by omega)]
    rw [hr] at c6
    have := longest_grow ((l.drop p.at_).take 100) (p.len + 1) op (by omega) (by rw [c6]) ?_ ?_ (by rw [b5]; simp only; omega)
    · rw [b5] at this; simp only at this; omega
    · rw [← hr, List.getElem?_take, if_pos (by omega), List.getElem?_drop, show p.at_ + (p.len + 1 - 1) = p.at_ + p.len by omega]; exact hc
    · rw [b5, List.head?_eq_getElem?, List.getElem?_take, if_pos (by omega), List.getElem?_drop, Nat.add_zero]; exact hx
end Go.Proofs.YtdfkkeeohbgmbaaDoor
