/- Package lex: the tokens of a text into which a comment is put. -/
import Derived.Test.YtdfkkeeohbgmbaaDoorA41
namespace Go.Proofs.YtdfkkeeohbgmbaaDoor
open Go.RowKit Lx

theorem stAfter_app (l : Bs) : ∀ (a b : List Pc) (x : St), stAfter l x (a ++ b) = stAfter l (stAfter l x a) b
  | [], _, _ => rfl
  | p :: r, b, x => stAfter_app l r b (qAfter l x p.kind p.len)

/-- The kind and the text of a token. -/
def tkOf (l : Bs) (p : Pc) : Nat × Bs := (p.kind, (l.drop p.at_).take p.len)

theorem toks_scan (l : Bs) (hl : l.length ≤ 20000) : toks l ⟨0, 0, false⟩ = if (qPieces l).2 = none then some ((qScan l).map (tkOf l)) else none := by
  have e : qPieces l = qFrom l ⟨0, 0, false⟩ := if_neg (by omega)
  unfold toks qScan qGood
  rw [e]
  split
  · rfl
  · rfl

/-- **Gaps** -/
theorem gaps_toks (l l' : Bs) (k : Nat) (p : Pc) (f : Bs) (hq : (qPieces l).2 = none) (hp : (qPieces l).1[k]? = some p) (hf : ∀ c ∈ f, c ≠ 42 ∧ c ≠ 47)
    (hl : l' = l.take p.at_ ++ (gapOf f ++ l.drop (p.at_ + if 7 ≤ p.kind then p.len else 0)))
    (hc : ∀ q, 0 < k → (qPieces l).1[k - 1]? = some q → q.kind = 8 → l[q.at_ + 1]? ≠ some 47) : toks l' ⟨0, 0, false⟩ = toks l ⟨0, 0, false⟩ := by
  have hs := qPieces_small l hq
  have e : qPieces l = qFrom l ⟨0, 0, false⟩ := if_neg (by omega)
  rw [e] at hq hp hc
  obtain ⟨hk, hpk⟩ := List.getElem?_eq_some_iff.1 hp
  have hsplit : (qFrom l ⟨0, 0, false⟩).1 = (qFrom l ⟨0, 0, false⟩).1.take k ++ p :: (qFrom l ⟨0, 0, false⟩).1.drop (k + 1) := by
    rw [← hpk, ← List.drop_eq_getElem_cons hk, List.take_append_drop]
  have hfrom : qFrom l ⟨0, 0, false⟩ = ((qFrom l ⟨0, 0, false⟩).1.take k ++ p :: (qFrom l ⟨0, 0, false⟩).1.drop (k + 1), none) := Prod.ext hsplit hq
  have hkm : ∀ q, (((qFrom l ⟨0, 0, false⟩).1.take k).getLast? = some q → 0 < k ∧ (qFrom l ⟨0, 0, false⟩).1[k - 1]? = some q) := by
    intro q h
    rw [List.getLast?_eq_getElem?, List.length_take, Nat.min_eq_left (by omega), List.getElem?_take] at h
    split at h
    · exact ⟨by omega, h⟩
    · cases h
  generalize (qFrom l ⟨0, 0, false⟩).1.take k = pre at *
  generalize (qFrom l ⟨0, 0, false⟩).1.drop (k + 1) = rest at *
  have hy := stAfter_from l pre (p :: rest) ⟨0, 0, false⟩ hfrom
  obtain ⟨y1, y2, y3, y4, y5⟩ := qFrom_inv hy
  have hyn := qNext_len l _ _ y1 y2
  have hpa : p.at_ = (stAfter l ⟨0, 0, false⟩ pre).i ∧ p.kind = (qNext l (stAfter l ⟨0, 0, false⟩ pre).i (stAfter l ⟨0, 0, false⟩ pre).op).kind ∧ p.len = (qNext l (stAfter l ⟨0, 0, false⟩ pre).i (stAfter l ⟨0, 0, false⟩ pre).op).len := by
    rw [y4]; exact ⟨rfl, rfl, rfl⟩
  have hdrop : l'.drop p.at_ = gapOf f ++ l.drop (p.at_ + if 7 ≤ p.kind then p.len else 0) := by
    rw [hl, List.drop_append, List.drop_eq_nil_of_le (by rw [List.length_take]; omega), List.nil_append, List.length_take]
    rw [show p.at_ - min p.at_ l.length = 0 by omega]; rfl
  have hput : Put l l' p.at_ := by
    refine ⟨by omega, ?_, ?_, ?_⟩
    · rw [hl, List.take_append_of_le_length (by rw [List.length_take]; omega), List.take_take, Nat.min_self]
    · rw [hdrop]; exact ⟨_, rfl⟩
    · intro c g1 g2 g3 g4
      rcases List.eq_nil_or_concat pre with h | ⟨pre0, q, h⟩
      · subst h
        simp only [stAfter] at hpa
        omega
      · rw [List.concat_eq_append] at h
        subst h
        rw [List.append_assoc] at hfrom
        have hz := stAfter_from l pre0 _ ⟨0, 0, false⟩ hfrom
        obtain ⟨z1, z2, z3, z4, z5⟩ := qFrom_inv (by simpa using hz)
        have hzn := qNext_len l _ _ z1 z2
        rw [stAfter_app] at hpa
        simp only [stAfter, qAfter_i] at hpa
        have hqa : q.len = (qNext l (stAfter l ⟨0, 0, false⟩ pre0).i (stAfter l ⟨0, 0, false⟩ pre0).op).len := by rw [z4]
        have hend : (stAfter l ⟨0, 0, false⟩ pre0).i + (qNext l (stAfter l ⟨0, 0, false⟩ pre0).i (stAfter l ⟨0, 0, false⟩ pre0).op).len = p.at_ := by omega
        refine piece_colon z2 rfl hzn.1 c ?_ ?_ ?_ ?_
        · rw [hend]; exact g1
        · rw [hend]; exact g2
        · rw [hend]; exact g3
        · rw [hend]; exact g4
  refine hput.toks pre (p :: rest) ⟨0, 0, false⟩ hfrom hpa.1.symm ?_ ?_
  · intro q h h8
    obtain ⟨g1, g2⟩ := hkm q h
    exact hc q g1 g2 h8
  · have hg := toks_gap l l' p.at_ _ (stAfter l ⟨0, 0, false⟩ pre).t (stAfter l ⟨0, 0, false⟩ pre).op f hf hdrop
    rw [show stAfter l ⟨0, 0, false⟩ pre = ⟨p.at_, (stAfter l ⟨0, 0, false⟩ pre).t, (stAfter l ⟨0, 0, false⟩ pre).op⟩ by rw [hpa.1]]
    rw [hg]
    by_cases h7 : 7 ≤ p.kind
    · rw [if_pos h7]
      have hsk := toks_skip l (stAfter l ⟨0, 0, false⟩ pre) y1 y2 (by omega)
      rw [← hpa.2.2, ← hpa.1] at hsk
      rw [← hsk]
      congr 1
      rw [hpa.1]
    · rw [if_neg h7, Nat.add_zero]

/-- What the scan of such a text is. -/
theorem gaps_scan (l l' : Bs) (hl : l.length ≤ 20000) (hl' : l'.length ≤ 20000) (hq : (qPieces l).2 = none) (h : toks l' ⟨0, 0, false⟩ = toks l ⟨0, 0, false⟩) : (qPieces l').2 = none ∧ (qScan l').map (tkOf l') = (qScan l).map (tkOf l) := by
  rw [toks_scan l hl, toks_scan l' hl', if_pos hq] at h
  split at h
  · rename_i h1
    exact ⟨h1, by simpa using h⟩
  · cases h
end Go.Proofs.YtdfkkeeohbgmbaaDoor
