/- Package lex: what a rule takes of a part of a text. -/
import Derived.Test.YtdfkkeeohbgmbaaDoorA29
namespace Go.Proofs.YtdfkkeeohbgmbaaDoor
open Go.RowKit Lx

theorem qRun_take (k : Nat) : ∀ (l : Bs) (m : Nat), qRun k (l.take m) ≤ qRun k l
  | [], m => by simp
  | b :: t, 0 => by simp [qRun]
  | b :: t, m + 1 => by
    have := qRun_take k t m
    simp only [List.take_succ_cons, qRun]
    split <;> omega

/-- A step of plain, opened. -/
theorem qGo_cons (b : UInt8) (t : Bs) (i size : Nat) (letter : Bool) : qGo (b :: t) i size letter = match qStep b i size letter with | none => size | some (size', letter') => qGo t (i + 1) size' letter' := rfl

theorem qStep_some {b : UInt8} {i size size' : Nat} {letter letter' : Bool} (h : qStep b i size letter = some (size', letter')) : (size' = size ∨ size' = i + 1) ∧ cWord b.toNat = true := by
  unfold qStep at h
  split at h
  · cases h
  · rename_i hc
    simp only [Bool.or_eq_true, Bool.not_eq_true', not_or] at hc
    simp only [Option.some.injEq, Prod.mk.injEq] at h
    refine ⟨?_, by simpa using hc.1⟩
    rw [← h.1]
    split
    · exact .inr rfl
    · exact .inl rfl

theorem qGo_ge : ∀ (l : Bs) (i size : Nat) (letter : Bool), size ≤ i → size ≤ qGo l i size letter
  | [], _, _, _, _ => by simp [qGo]
  | b :: t, i, size, letter, h => by
    rw [qGo_cons]
    split
    · omega
    · rename_i s' l' hs
      have h1 := (qStep_some hs).1
      have := qGo_ge t (i + 1) s' l' (by omega)
      omega

theorem qGo_take : ∀ (l : Bs) (m i size : Nat) (letter : Bool), size ≤ i → qGo (l.take m) i size letter ≤ qGo l i size letter
  | [], m, i, size, letter, _ => by simp
  | b :: t, 0, i, size, letter, h => by
    have := qGo_ge (b :: t) i size letter h
    simpa [qGo] using this
  | b :: t, m + 1, i, size, letter, h => by
    simp only [List.take_succ_cons, qGo_cons]
    split
    · omega
    · rename_i s' l' hs
      have h1 := (qStep_some hs).1
      exact qGo_take t m (i + 1) s' l' (by omega)

theorem qPlain_take (l : Bs) (m : Nat) : qPlain (l.take m) ≤ qPlain l := qGo_take l m 0 0 false (by omega)

/-- A byte that is in no name ends a name. -/
theorem qGo_stop : ∀ (l : Bs) (j i size : Nat) (letter : Bool) (c : UInt8), l[j]? = some c → cWord c.toNat = false → qGo l i size letter = qGo (l.take j) i size letter
  | [], j, i, size, letter, c, h, _ => by simp at h
  | b :: t, 0, i, size, letter, c, h, hc => by
    simp at h; subst h
    rw [qGo_cons]
    have : qStep b i size letter = none := by unfold qStep; rw [hc]; simp
    rw [this]; simp [qGo]
  | b :: t, j + 1, i, size, letter, c, h, hc => by
    simp only [List.take_succ_cons, qGo_cons]
    split
    · rfl
    · exact qGo_stop t j (i + 1) _ _ c (by simpa using h) hc

theorem qPlain_stop (l : Bs) (j : Nat) (c : UInt8) (h : l[j]? = some c) (hc : cWord c.toNat = false) : qPlain l = qPlain (l.take j) := qGo_stop l j 0 0 false c h hc

/-- A name that ends ahead of such a byte is the same in a longer text. -/
theorem qPlain_same (l : Bs) (m j : Nat) (c : UInt8) (hj : j < m) (h : (l.take m)[j]? = some c) (hc : cWord c.toNat = false) : qPlain l = qPlain (l.take m) := by
  have h' : l[j]? = some c := by rw [List.getElem?_take] at h; rwa [if_pos hj] at h
  rw [qPlain_stop l j c h' hc, qPlain_stop (l.take m) j c h hc, List.take_take, Nat.min_eq_left (by omega)]

theorem drop_take_comm (l : Bs) (m k : Nat) : (l.take m).drop k = (l.drop k).take (m - k) := by rw [List.drop_take]

/-- Whether a name goes on behind its first part. -/
def qualB (l : Bs) (n : Nat) : Bool := decide (0 < n) && l[n]? == some 64 && (match l[n + 1]? with | some b => cSmall b.toNat || cDigit b.toNat | none => false)
theorem qName_eq (l : Bs) : qName l = if qualB l (qPlain l) = true then qPlain l + 2 + qRun 5 (l.drop (qPlain l + 2)) else qPlain l := rfl
theorem qName_plain (l : Bs) : qPlain l ≤ qName l := by
  rw [qName_eq]
  split <;> omega

theorem qualB_inv {l : Bs} {n : Nat} (h : qualB l n = true) : 0 < n ∧ l[n]? = some 64 ∧ (match l[n + 1]? with | some b => cSmall b.toNat || cDigit b.toNat | none => false) = true := by
  unfold qualB at h
  simp only [Bool.and_eq_true, beq_iff_eq, decide_eq_true_eq] at h
  exact ⟨h.1.1, h.1.2, h.2⟩

theorem qName_grow (l : Bs) (m : Nat) (h : qName (l.take m) = m) : m ≤ qName l := by
  have hp := qPlain_take l m
  have hn := qName_plain l
  rw [qName_eq] at h
  by_cases hc : qualB (l.take m) (qPlain (l.take m)) = true
  · rw [if_pos hc] at h
    obtain ⟨c1, c2, c3⟩ := qualB_inv hc
    have hlt : qPlain (l.take m) + 1 < m := by
      rcases Nat.lt_or_ge (qPlain (l.take m) + 1) m with h' | h'
      · exact h'
      · rw [List.getElem?_take, if_neg (by omega)] at c3; simp at c3
    have hs := qPlain_same l m _ 64 (by omega) c2 (by decide)
    generalize qPlain (l.take m) = k at *
    have d2 : l[k]? = (l.take m)[k]? := by rw [List.getElem?_take, if_pos (by omega)]
    have d3 : l[k + 1]? = (l.take m)[k + 1]? := by rw [List.getElem?_take, if_pos hlt]
    have hq : qualB l k = true := by unfold qualB; rw [d2, d3]; exact hc
    rw [qName_eq, hs, if_pos hq]
    have hr : qRun 5 ((l.take m).drop (k + 2)) ≤ qRun 5 (l.drop (k + 2)) := by rw [drop_take_comm]; exact qRun_take _ _ _
    omega
  · rw [if_neg hc] at h
    omega

theorem qColon_grow (l : Bs) (m : Nat) (h : qColon (l.take m) = true) (hm : 2 ≤ m) : qColon l = true := by
  match l, m, hm, h with
  | [], m, _, h => simpa using h
  | [a], m + 2, _, h => simpa using h
  | a :: b :: t, m + 2, _, h => simpa [qColon] using h

theorem head_take (l : Bs) (m : Nat) (hm : 0 < m) : (l.take m).head? = l.head? := by
  cases l with
  | nil => simp
  | cons a t => cases m with
    | zero => omega
    | succ m => rfl

theorem qPat_plain (l : Bs) (h : (l.head? == some 63) = true) (hp : 0 < qPlain (l.drop 1)) : qPlain (l.drop 1) + 1 ≤ qPat l := by
  unfold qPat; rw [if_pos h]; simp only; rw [if_neg (by omega)]
  split <;> omega

theorem qPat_grow (l : Bs) (m : Nat) (h : qPat (l.take m) = m) (hm : 0 < m) : m ≤ qPat l := by
  by_cases hh : ((l.take m).head? == some 63) = true
  · have hh' := hh
    rw [head_take l m hm] at hh'
    by_cases h0 : qPlain ((l.take m).drop 1) = 0
    · rw [qPat_1 _ hh h0] at h; omega
    · obtain ⟨k, hk⟩ : ∃ k, qPlain ((l.take m).drop 1) = k := ⟨_, rfl⟩
      have hk0 : 0 < k := by omega
      cases hq : qColon ((l.take m).drop (k + 1))
      · rw [qPat_2 _ hh k hk hk0 hq] at h
        have h1 : qPlain ((l.take m).drop 1) ≤ qPlain (l.drop 1) := by rw [drop_take_comm]; exact qPlain_take _ _
        have h2 := qPat_plain l hh' (by omega)
        omega
      · obtain ⟨j, hj⟩ : ∃ j, qPlain ((l.take m).drop (k + 2)) = j := ⟨_, rfl⟩
        rw [qPat_3 _ hh k hk hk0 hq j hj] at h
        by_cases hj0 : 0 < j
        · rw [if_pos hj0] at h
          have hcol : ((l.take m).drop (k + 1))[0]? = some 58 := by
            unfold qColon at hq
            simp only [Bool.and_eq_true] at hq
            have := hq.1.1
            rw [List.head?_eq_getElem?] at this
            simpa using this
          have hsame : qPlain (l.drop 1) = k := by
            rw [← hk, drop_take_comm]
            rw [drop_take_comm] at hcol
            refine qPlain_same (l.drop 1) (m - 1) k 58 (by omega) ?_ (by decide)
            rw [List.getElem?_take, if_pos (by omega), List.getElem?_drop]
            rw [List.getElem?_take, if_pos (by omega), List.getElem?_drop] at hcol
            rw [← hcol]; congr 1; omega
          have hq' : qColon (l.drop (k + 1)) = true := by
            rw [drop_take_comm] at hq
            exact qColon_grow _ _ hq (by omega)
          obtain ⟨j', hj'⟩ : ∃ j', qPlain (l.drop (k + 2)) = j' := ⟨_, rfl⟩
          have hjj : j ≤ j' := by rw [← hj, ← hj', drop_take_comm]; exact qPlain_take _ _
          rw [qPat_3 l hh' k hsame hk0 hq' j' hj', if_pos (by omega)]
          omega
        · rw [if_neg hj0] at h
          have h1 : qPlain ((l.take m).drop 1) ≤ qPlain (l.drop 1) := by rw [drop_take_comm]; exact qPlain_take _ _
          have h2 := qPat_plain l hh' (by omega)
          omega
  · rw [qPat_0 _ (by simpa using hh)] at h; omega

theorem qKey_end (l : Bs) (m : Nat) (h : qKey (l.take m) = m) (hm : 0 < m) : (l.take m)[m - 1]? = some 58 := by
  unfold qKey at h; simp only at h
  split at h
  · rename_i hc
    simp only [Bool.and_eq_true] at hc
    have h2 := hc.2
    unfold qColon at h2
    simp only [Bool.and_eq_true] at h2
    have := h2.1.1
    rw [List.head?_eq_getElem?, List.getElem?_drop] at this
    simp only [Nat.add_zero, beq_iff_eq] at this
    rw [show m - 1 = qPlain (l.take m) by omega]; exact this
  · omega

theorem qHash_grow (l : Bs) (m : Nat) (h : qHash (l.take m) = m) (hm : 0 < m) : m ≤ qHash l := by
  unfold qHash at h
  split at h
  · subst h
    rename_i hc
    rw [List.take_take, Nat.min_self] at hc
    unfold qHash; rw [if_pos hc]; omega
  · omega

theorem qSign_grow (l : Bs) (m : Nat) (h : qSign (l.take m) = m) (hm : 2 ≤ m) : m ≤ qSign l := by
  unfold qSign at h
  split at h
  · subst h
    rename_i hc
    rw [List.take_take, Nat.min_self] at hc
    unfold qSign; rw [if_pos hc]; omega
  · split at h
    · split at h <;> omega
    · omega

theorem qInt_grow (l : Bs) (m : Nat) (op : Bool) (h : qInt (l.take m) false = m) (hm : 0 < m) : m ≤ qInt l op ∨ (l.head? = some 45 ∧ op = true ∧ 2 ≤ m ∧ 0 < qRun 1 (l.drop 1)) := by
  by_cases hh : ((l.take m).head? == some 45) = true
  · have hh' := hh
    rw [head_take l m hm] at hh'
    obtain ⟨k, hk⟩ : ∃ k, qRun 1 ((l.take m).drop 1) = k := ⟨_, rfl⟩
    rw [qInt_minus (l.take m) false (by simp [hh]) k hk] at h
    have hr : k ≤ qRun 1 (l.drop 1) := by rw [← hk, drop_take_comm]; exact qRun_take _ _ _
    split at h
    · cases op
      · left
        rw [qInt_minus l false (by simp [hh']) _ rfl, if_pos (by omega)]
        omega
      · right
        exact ⟨by simpa using hh', rfl, by omega, by omega⟩
    · omega
  · have hh' := hh
    rw [head_take l m hm] at hh'
    obtain ⟨k, hk⟩ : ∃ k, qRun 1 (l.take m) = k := ⟨_, rfl⟩
    rw [qInt_plain (l.take m) false (by simp [Bool.eq_false_iff.2 hh]) k hk] at h
    have hr : k ≤ qRun 1 l := by rw [← hk]; exact qRun_take _ _ _
    split at h
    · left
      rw [qInt_plain l op (by simp [Bool.eq_false_iff.2 hh']) _ rfl, if_pos (by omega)]
      omega
    · omega

/-- The longest match is one of the rules', and none is longer. -/
theorem qB_max (l : Bs) (op : Bool) : ∀ (k j : Nat), j < k → qLen l op j ≤ (qB l op k).2
  | 0, j, h => by omega
  | k + 1, j, h => by
    simp only [qB, qBetter]
    by_cases hj : j = k
    · subst hj; split
      · exact Nat.le_refl _
      · omega
    · have := qB_max l op k j (by omega)
      split
      · show qLen l op j ≤ qLen l op k; omega
      · exact this
theorem qB_is (l : Bs) (op : Bool) : ∀ (k : Nat), (qB l op k).2 = 0 ∨ ∃ j, j < k ∧ (qB l op k).1 = j + 1 ∧ qLen l op j = (qB l op k).2
  | 0 => .inl rfl
  | k + 1 => by
    simp only [qB, qBetter]
    split
    · exact .inr ⟨k, by omega, rfl, rfl⟩
    · rcases qB_is l op k with h | ⟨j, hj, h1, h2⟩
      · exact .inl h
      · exact .inr ⟨j, by omega, h1, h2⟩

theorem plain_minus (t : Bs) : qPlain (45 :: t) = 0 := by
  unfold qPlain; rw [qGo_cons]
  have : qStep 45 0 0 false = none := by decide
  rw [this]
theorem name_minus (t : Bs) : qName (45 :: t) = 0 := by
  unfold qName; simp only [plain_minus]; simp
theorem key_minus (t : Bs) : qKey (45 :: t) = 0 := by
  unfold qKey; simp only [plain_minus]; simp

/-- A minus sign ahead of a digit, behind an operand, stands alone. -/
theorem longest_minus (l : Bs) (h : l.head? = some 45) (hd : 0 < qRun 1 (l.drop 1)) : (qLongest l true).2 ≤ 1 := by
  match l, h with
  | a :: t, h =>
    simp at h; subst h
    have h5 : qSign (45 :: t) ≤ 1 := by
      unfold qSign
      match t with
      | [] => simp at hd; simp [qRun] at hd
      | b :: t => rw [if_neg (by simp [qTwo])]; simp; split <;> omega
    have h2 : qInt (45 :: t) true = 0 := by
      rw [qInt_plain _ true (by simp) 0 (by rw [qRun, if_neg (by decide)])]; rfl
    have h4 : qHash (45 :: t) = 0 := by
      unfold qHash
      match t with
      | [] => rfl
      | b :: t => rw [if_neg (by simp)]
    have h6 : qPat (45 :: t) = 0 := qPat_0 _ (by simp)
    rcases qB_is (45 :: t) true 6 with h | ⟨j, hj, h1, h2'⟩
    · rw [qB_6] at h; omega
    · rw [qB_6] at h2'
      rw [← h2']
      have : j = 0 ∨ j = 1 ∨ j = 2 ∨ j = 3 ∨ j = 4 ∨ j = 5 := by omega
      rcases this with rfl | rfl | rfl | rfl | rfl | rfl
      · simp [qLen, name_minus]
      · simp [qLen, h2]
      · simp [qLen, key_minus]
      · simp [qLen, h4]
      · simpa [qLen] using h5
      · simp [qLen, h6]

/-- What is the longest match in a part of a text is no longer than in the whole. -/
theorem longest_grow (l : Bs) (m : Nat) (op : Bool) (hm : 2 ≤ m) (h : (qLongest (l.take m) false).2 = m) (hc : (l.take m)[m - 1]? ≠ some 58) (hx : ¬ ((qLongest l op).2 = 1 ∧ l.head? = some 45)) (h0 : (qLongest l op).2 ≠ 0) : m ≤ (qLongest l op).2 := by
  rcases qB_is (l.take m) false 6 with h' | ⟨j, hj, h1, h2⟩
  · rw [qB_6] at h'; omega
  · rw [qB_6, h] at h2
    have hmax := qB_max l op 6 j hj
    rw [qB_6] at hmax
    refine Nat.le_trans ?_ hmax
    have : j = 0 ∨ j = 1 ∨ j = 2 ∨ j = 3 ∨ j = 4 ∨ j = 5 := by omega
    rcases this with rfl | rfl | rfl | rfl | rfl | rfl
    · exact qName_grow l m h2
    · rcases qInt_grow l m op h2 (by omega) with h3 | ⟨h3, rfl, _, h5⟩
      · exact h3
      · exfalso
        have := longest_minus l h3 h5
        exact hx ⟨by omega, h3⟩
    · exact absurd (qKey_end l m h2 (by omega)) hc
    · exact qHash_grow l m h2 (by omega)
    · exact qSign_grow l m h2 hm
    · exact qPat_grow l m h2 (by omega)
end Go.Proofs.YtdfkkeeohbgmbaaDoor
