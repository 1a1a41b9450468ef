/- Package lex: a rule ahead of a space, and at a part of a text. -/
import Derived.Test.YtdfkkeeohbgmbaaDoorA36
namespace Go.Proofs.YtdfkkeeohbgmbaaDoor
open Go.RowKit Lx

/- Ahead of a space. -/
theorem qRun_space (k : Nat) (hk : qCls k 32 = false) (r : Bs) : ∀ v : Bs, qRun k (v ++ 32 :: r) = qRun k v
  | [] => by simp [qRun, hk]
  | a :: t => by
    simp only [List.cons_append, qRun]
    rw [qRun_space k hk r t]

theorem qPlain_space (v r : Bs) : qPlain (v ++ 32 :: r) = qPlain v := by
  rw [qPlain_stop (v ++ 32 :: r) v.length 32 (by simp) (by decide)]
  simp

theorem get_space (v r : Bs) (n : Nat) (hn : n < v.length) : (v ++ 32 :: r)[n]? = v[n]? := List.getElem?_append_left hn
theorem drop_space (v r : Bs) (n : Nat) (hn : n ≤ v.length) : (v ++ 32 :: r).drop n = v.drop n ++ 32 :: r := by
  rw [List.drop_append_of_le_length hn]

theorem qColon_space (v r : Bs) : qColon (v ++ 32 :: r) = qColon v := by
  match v with
  | [] => simp [qColon]
  | [a] => simp [qColon]
  | a :: b :: t => simp [qColon]

theorem qualB_space (v r : Bs) (n : Nat) (hn : n ≤ v.length) : qualB (v ++ 32 :: r) n = qualB v n := by
  unfold qualB
  rcases Nat.lt_or_ge n v.length with h | h
  · rw [get_space v r n h]
    rcases Nat.lt_or_ge (n + 1) v.length with h' | h'
    · rw [get_space v r (n + 1) h']
    · have hn1 : n + 1 = v.length := by omega
      rw [hn1, List.getElem?_append_right (Nat.le_refl _), List.getElem?_eq_none (l := v) (i := v.length) (Nat.le_refl _)]
      simp [cSmall, cDigit]
  · obtain rfl : n = v.length := by omega
    rw [List.getElem?_append_right (Nat.le_refl _), List.getElem?_eq_none (l := v) (i := v.length) (Nat.le_refl _)]
    simp

theorem qualB_len {l : Bs} {n : Nat} (h : qualB l n = true) : n + 1 < l.length := by
  obtain ⟨_, _, h3⟩ := qualB_inv h
  rcases Nat.lt_or_ge (n + 1) l.length with h' | h'
  · exact h'
  · rw [List.getElem?_eq_none (by omega)] at h3; simp at h3

theorem qName_space (v r : Bs) : qName (v ++ 32 :: r) = qName v := by
  have hp := qPlain_le v
  rw [qName_eq, qName_eq, qPlain_space, qualB_space v r _ hp]
  split
  · rename_i h
    have := qualB_len h
    rw [drop_space v r _ (by omega), qRun_space 5 (by decide)]
  · rfl

theorem qInt_space (v r : Bs) (op : Bool) : qInt (v ++ 32 :: r) op = qInt v op := by
  match v with
  | [] => cases op <;> simp [qInt, qRun, qCls, cDigit]
  | a :: t =>
    unfold qInt
    simp only [List.cons_append, List.head?_cons]
    by_cases h : (some a == some 45 && !op) = true
    · simp only [h, if_true, List.drop_succ_cons, List.drop_zero, qRun_space 1 (by decide) r t]
    · simp only [h, if_false, Bool.false_eq_true, List.drop_zero]
      rw [← List.cons_append, qRun_space 1 (by decide) r (a :: t)]

theorem qKey_space (v r : Bs) : qKey (v ++ 32 :: r) = qKey v := by
  unfold qKey
  simp only [qPlain_space]
  rw [drop_space v r _ (qPlain_le v), qColon_space]

theorem qHash_space (v r : Bs) : qHash (v ++ 32 :: r) = qHash v := by
  match v with
  | [] => simp [qHash]
  | [a] => simp [qHash]
  | a :: b :: t => simp [qHash]

theorem qSign_space (v r : Bs) : qSign (v ++ 32 :: r) = qSign v := by
  match v with
  | [] => simp [qSign, qTwo, qOne]
  | [a] => simp [qSign, qTwo]
  | a :: b :: t => simp [qSign]

theorem qPat_space (v r : Bs) : qPat (v ++ 32 :: r) = qPat v := by
  match v with
  | [] => simp [qPat]
  | a :: t =>
    unfold qPat
    simp only [List.cons_append, List.head?_cons, List.drop_succ_cons, List.drop_zero, qPlain_space]
    have hp := qPlain_le t
    rw [drop_space t r _ hp, qColon_space]
    split
    · split
      · rfl
      · rename_i h0
        cases hc : qColon (t.drop (qPlain t))
        · simp
        · have hl := qColon_len _ hc
          simp only [List.length_drop] at hl
          rw [drop_space t r _ (by omega), qPlain_space]
    · rfl

theorem qLen_space (v r : Bs) (op : Bool) (j : Nat) : qLen (v ++ 32 :: r) op j = qLen v op j := by
  unfold qLen
  split
  · exact qName_space v r
  · exact qInt_space v r op
  · exact qKey_space v r
  · exact qHash_space v r
  · exact qSign_space v r
  · exact qPat_space v r

theorem qB_cong (l l' : Bs) (op : Bool) (h : ∀ j, qLen l op j = qLen l' op j) : ∀ k, qB l op k = qB l' op k
  | 0 => rfl
  | k + 1 => by simp only [qB]; rw [qB_cong l l' op h k, h]

/-- Ahead of a space the longest match is that of the text that ends there. -/
theorem longest_space (v r : Bs) (op : Bool) : qLongest ((v ++ 32 :: r).take 100) op = qLongest (v.take 100) op := by
  rcases Nat.lt_or_ge v.length 100 with h | h
  · rw [List.take_append, List.take_of_length_le (l := v) (by omega)]
    obtain ⟨m, hm⟩ : ∃ m, 100 - v.length = m + 1 := ⟨100 - v.length - 1, by omega⟩
    rw [hm, List.take_succ_cons, ← qB_6, ← qB_6]
    exact qB_cong _ _ _ (fun j => qLen_space v _ op j) 6
  · rw [List.take_append_of_le_length h]

/- At a part of a text. -/
theorem qRun_pre (k : Nat) : ∀ (l : Bs) (m : Nat), qRun k l ≤ m → qRun k (l.take m) = qRun k l
  | [], m, _ => by simp
  | b :: t, 0, h => by
    simp only [qRun] at h ⊢
    split at h
    · omega
    · rename_i hc; simp [qRun, hc]
  | b :: t, m + 1, h => by
    simp only [List.take_succ_cons, qRun] at h ⊢
    split
    · rename_i hc
      rw [if_pos hc] at h
      rw [qRun_pre k t m (by omega)]
    · rfl

theorem qGo_end : ∀ (l : Bs) (i size : Nat) (letter : Bool), qGo l i size letter = size ∨ i < qGo l i size letter
  | [], _, _, _ => .inl rfl
  | b :: t, i, size, letter => by
    rw [qGo_cons]
    split
    · exact .inl rfl
    · rename_i s' l' hs
      have h1 := (qStep_some hs).1
      rcases qGo_end t (i + 1) s' l' with h | h
      · rw [h]
        rcases h1 with h1 | h1
        · exact .inl h1
        · exact .inr (by omega)
      · exact .inr (by omega)

theorem qGo_pre : ∀ (l : Bs) (m i size : Nat) (letter : Bool), size ≤ i → qGo l i size letter ≤ i + m → qGo (l.take m) i size letter = qGo l i size letter
  | [], m, i, size, letter, _, _ => by simp
  | b :: t, 0, i, size, letter, hs, h => by
    rcases qGo_end (b :: t) i size letter with h' | h'
    · rw [h']; rfl
    · omega
  | b :: t, m + 1, i, size, letter, hs, h => by
    simp only [List.take_succ_cons, qGo_cons] at h ⊢
    split
    · rfl
    · rename_i s' l' hst
      rw [hst] at h
      simp only at h
      have h1 := (qStep_some hst).1
      exact qGo_pre t m (i + 1) s' l' (by omega) (by omega)

theorem qPlain_pre (l : Bs) (m : Nat) (h : qPlain l ≤ m) : qPlain (l.take m) = qPlain l := qGo_pre l m 0 0 false (by omega) (by unfold qPlain at h; omega)

theorem qGo_last : ∀ (l : Bs) (i size : Nat) (letter : Bool), size ≤ i → i < qGo l i size letter → ∃ a, l[qGo l i size letter - 1 - i]? = some a ∧ cWord a.toNat = true
  | [], i, size, letter, hs, h => by simp only [qGo] at h; omega
  | b :: t, i, size, letter, hs, h => by
    rw [qGo_cons] at h ⊢
    split at h
    · omega
    · rename_i s' l' hst
      have h1 := qStep_some hst
      rcases qGo_end t (i + 1) s' l' with h2 | h2
      · have : s' = i + 1 := by omega
        exact ⟨b, by rw [h2, show s' - 1 - i = 0 by omega]; rfl, h1.2⟩
      · obtain ⟨a, ha, hw⟩ := qGo_last t (i + 1) s' l' (by omega) h2
        refine ⟨a, ?_, hw⟩
        rw [show qGo t (i + 1) s' l' - 1 - i = (qGo t (i + 1) s' l' - 1 - (i + 1)) + 1 by omega]
        exact ha

theorem plain_last (l : Bs) (m : Nat) (h : 0 < qPlain (l.take m)) : ∃ a, l[qPlain (l.take m) - 1]? = some a ∧ cWord a.toNat = true := by
  obtain ⟨a, ha, hw⟩ := qGo_last (l.take m) 0 0 false (by omega) h
  refine ⟨a, ?_, hw⟩
  rw [List.getElem?_take] at ha
  split at ha
  · exact ha
  · cases ha

theorem get_pre (l : Bs) (m n : Nat) (h : n < m) : (l.take m)[n]? = l[n]? := by rw [List.getElem?_take, if_pos h]

theorem qName_le_take (l : Bs) (m : Nat) : qName (l.take m) ≤ qName l := by
  have hp := qPlain_take l m
  have hn := qName_plain l
  rw [qName_eq (l.take m)]
  by_cases hc : qualB (l.take m) (qPlain (l.take m)) = true
  · rw [if_pos hc]
    have hlen := qualB_len hc
    simp only [List.length_take] at hlen
    obtain ⟨c1, c2, c3⟩ := qualB_inv hc
    have hs := qPlain_same l m _ 64 (by omega) c2 (by decide)
    generalize qPlain (l.take m) = k at *
    have hq : qualB l k = true := by unfold qualB; rw [← get_pre l m k (by omega), ← get_pre l m (k + 1) (by omega)]; exact hc
    rw [qName_eq, hs, if_pos hq]
    have hr : qRun 5 ((l.take m).drop (k + 2)) ≤ qRun 5 (l.drop (k + 2)) := by rw [drop_take_comm]; exact qRun_take _ _ _
    omega
  · rw [if_neg hc]
    omega

theorem qName_pre (l : Bs) (m : Nat) (h : qName l ≤ m) : qName l ≤ qName (l.take m) := by
  rw [qName_eq l] at h ⊢
  by_cases hc : qualB l (qPlain l) = true
  · rw [if_pos hc] at h ⊢
    have hp := qPlain_pre l m (by omega)
    have hq : qualB (l.take m) (qPlain l) = true := by unfold qualB; rw [get_pre l m _ (by omega), get_pre l m _ (by omega)]; exact hc
    rw [qName_eq, hp, if_pos hq, drop_take_comm, qRun_pre 5 _ _ (by omega)]
    exact Nat.le_refl _
  · rw [if_neg hc] at h ⊢
    have hp := qPlain_pre l m h
    have := qName_plain (l.take m)
    omega

theorem head_take' (l : Bs) (m : Nat) : (l.take m).head? = l.head? ∨ m = 0 := by
  cases m with
  | zero => exact .inr rfl
  | succ m => exact .inl (head_take l (m + 1) (by omega))

theorem qInt_le_take (l : Bs) (m : Nat) (op : Bool) : qInt (l.take m) op ≤ qInt l op := by
  rcases head_take' l m with hh | rfl
  · unfold qInt
    rw [hh]
    by_cases h : (l.head? == some 45 && !op) = true
    · simp only [h, if_true]
      have : qRun 1 ((l.take m).drop 1) ≤ qRun 1 (l.drop 1) := by rw [drop_take_comm]; exact qRun_take _ _ _
      split
      · rw [if_pos (by omega)]; omega
      · omega
    · simp only [h, if_false, Bool.false_eq_true, List.drop_zero]
      have := qRun_take 1 l m
      split
      · rw [if_pos (by omega)]; omega
      · omega
  · cases op <;> simp [qInt, qRun]

theorem qInt_pre (l : Bs) (m : Nat) (op : Bool) (h : qInt l op ≤ m) : qInt l op ≤ qInt (l.take m) op := by
  rcases head_take' l m with hh | rfl
  · unfold qInt at h ⊢
    rw [hh]
    by_cases hc : (l.head? == some 45 && !op) = true
    · simp only [hc, if_true] at h ⊢
      by_cases h0 : 0 < qRun 1 (l.drop 1)
      · rw [if_pos h0] at h ⊢
        have : qRun 1 ((l.take m).drop 1) = qRun 1 (l.drop 1) := by rw [drop_take_comm]; exact qRun_pre 1 _ _ (by omega)
        rw [this, if_pos h0]
        exact Nat.le_refl _
      · rw [if_neg h0]; omega
    · simp only [hc, if_false, Bool.false_eq_true, List.drop_zero] at h ⊢
      by_cases h0 : 0 < qRun 1 l
      · rw [if_pos h0] at h ⊢
        rw [qRun_pre 1 l m (by omega), if_pos h0]
        exact Nat.le_refl _
      · rw [if_neg h0]; omega
  · omega

theorem qColon_pre (l : Bs) (m : Nat) (h : qColon l = true) (hm : 0 < m) : qColon (l.take m) = true := by
  match l, m, hm with
  | [], m, _ => simpa using h
  | a :: t, 1, _ =>
    unfold qColon at h ⊢
    simp only [Bool.and_eq_true] at h
    simpa using h.1.1
  | a :: b :: t, m + 2, _ => simpa [qColon] using h
  | [a], m + 2, _ => simpa using h

theorem qKey_pre (l : Bs) (m : Nat) (h : qKey l ≤ m) : qKey l ≤ qKey (l.take m) := by
  unfold qKey at h ⊢
  simp only at h ⊢
  split at h
  · rename_i hc
    simp only [Bool.and_eq_true, decide_eq_true_eq] at hc
    rw [if_pos (by simp [hc.1, hc.2])]
    rw [qPlain_pre l m (by omega), drop_take_comm, qColon_pre _ _ hc.2 (by omega)]
    simp [hc.1]
  · rename_i hc
    rw [if_neg hc]; omega

/-- A keyword in a part of a text is one in the whole, but for a colon at the end. -/
theorem qKey_le_take (l : Bs) (m : Nat) (hc : ∀ c, l[m - 1]? = some 58 → l[m]? = some c → 2 ≤ m → (∃ a, l[m - 2]? = some a ∧ cWord a.toNat = true) → (c == 58 || c == 61) = false) : qKey (l.take m) ≤ qKey l := by
  by_cases hk : qKey (l.take m) = 0
  · omega
  · unfold qKey at hk ⊢
    simp only at hk ⊢
    split at hk
    · rename_i hq
      rw [if_pos hq]
      simp only [Bool.and_eq_true, decide_eq_true_eq] at hq
      obtain ⟨h0, hq⟩ := hq
      have hlen := qColon_len _ hq
      simp only [List.length_drop, List.length_take] at hlen
      have hcol : (l.take m)[qPlain (l.take m)]? = some 58 := by
        have h2 := hq
        unfold qColon at h2
        simp only [Bool.and_eq_true] at h2
        have := h2.1.1
        rw [List.head?_eq_getElem?, List.getElem?_drop] at this
        simpa using this
      have hs := qPlain_same l m _ 58 (by omega) hcol (by decide)
      rw [hs]
      have hfull : qColon (l.drop (qPlain (l.take m))) = true := by
        rw [drop_take_comm] at hq
        rcases Nat.lt_or_ge (qPlain (l.take m) + 1) m with h' | h'
        · exact qColon_grow _ _ hq (by omega)
        · have hm : m = qPlain (l.take m) + 1 := by omega
          rw [get_pre l m _ (by omega)] at hcol
          have hc' : ∀ c, l[m]? = some c → (c == 58 || c == 61) = false := by
            intro c hcc
            refine hc c (by rw [show m - 1 = qPlain (l.take m) by omega]; exact hcol) hcc (by omega) ?_
            have hw := plain_last l m h0
            rw [show m - 2 = qPlain (l.take m) - 1 by omega]
            exact hw
          unfold qColon
          rw [List.head?_eq_getElem?, List.getElem?_drop, List.getElem?_drop, Nat.add_zero, hcol, ← hm]
          cases hcc : l[m]? with
          | none => simp
          | some c =>
            have := hc' c hcc
            simp only [Bool.or_eq_false_iff] at this
            simp [this.1, this.2]
      rw [if_pos (by simp [h0, hfull])]
      exact Nat.le_refl _
    · exact absurd rfl hk
end Go.Proofs.YtdfkkeeohbgmbaaDoor
