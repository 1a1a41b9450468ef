/- Package lex: the longest match at a part of a text, and the last byte of a piece. -/
import Derived.Test.YtdfkkeeohbgmbaaDoorA38
namespace Go.Proofs.YtdfkkeeohbgmbaaDoor
open Go.RowKit Lx

theorem qHash_le_take (l : Bs) (m : Nat) : qHash (l.take m) ≤ qHash l := by
  match l, m with
  | [], m => simp
  | a :: t, 0 => simp [qHash]
  | a :: t, 1 => simp [qHash]
  | [a], m + 2 => simp
  | a :: b :: t, m + 2 => simp [qHash]

theorem qHash_pre (l : Bs) (m : Nat) (h : qHash l ≤ m) : qHash l ≤ qHash (l.take m) := by
  by_cases h0 : qHash l = 0
  · omega
  · have h2 : qHash l = 2 := by
      unfold qHash at h0 ⊢; split
      · rfl
      · rename_i hc; rw [if_neg hc] at h0; exact absurd rfl h0
    obtain ⟨m', rfl⟩ : ∃ m', m = m' + 2 := ⟨m - 2, by omega⟩
    unfold qHash
    rw [List.take_take, Nat.min_eq_left (by omega)]
    exact Nat.le_refl _

theorem qSign_le_take (l : Bs) (m : Nat) : qSign (l.take m) ≤ qSign l := by
  match l, m with
  | [], m => simp
  | a :: t, 0 => simp [qSign, qTwo]
  | a :: t, 1 =>
    unfold qSign
    rw [if_neg (by simp [qTwo])]
    simp only [List.take_succ_cons, List.take_zero, List.head?_cons]
    split <;> split <;> omega
  | [a], m + 2 => simp
  | a :: b :: t, m + 2 => simp [qSign]

theorem qSign_pre (l : Bs) (m : Nat) (h : qSign l ≤ m) : qSign l ≤ qSign (l.take m) := by
  match l, m with
  | [], m => simp
  | a :: t, 0 => omega
  | a :: t, 1 =>
    unfold qSign at h ⊢
    split at h
    · omega
    · rename_i hc
      rw [if_neg hc, if_neg (by simp [qTwo])]
      simp
  | [a], m + 2 => simp
  | a :: b :: t, m + 2 => simp [qSign]

theorem qPat_le_take (l : Bs) (m : Nat) : qPat (l.take m) ≤ qPat l := by
  by_cases hm : m = 0
  · subst hm; simp [qPat]
  · have hle := qPat_le (l.take m)
    simp only [List.length_take] at hle
    by_cases hh : ((l.take m).head? == some 63) = true
    · have hh' := hh
      rw [head_take l m (by omega)] at hh'
      by_cases h0 : qPlain ((l.take m).drop 1) = 0
      · rw [qPat_1 _ hh h0]; omega
      · obtain ⟨k, hk⟩ : ∃ k, qPlain ((l.take m).drop 1) = k := ⟨_, rfl⟩
        have hk0 : 0 < k := by omega
        have h1 : k ≤ qPlain (l.drop 1) := by rw [← hk, drop_take_comm]; exact qPlain_take _ _
        have h2 := qPat_plain l hh' (by omega)
        cases hq : qColon ((l.take m).drop (k + 1))
        · rw [qPat_2 _ hh k hk hk0 hq]; omega
        · obtain ⟨j, hj⟩ : ∃ j, qPlain ((l.take m).drop (k + 2)) = j := ⟨_, rfl⟩
          rw [qPat_3 _ hh k hk hk0 hq j hj] at hle ⊢
          by_cases hj0 : 0 < j
          · rw [if_pos hj0] at hle ⊢
            have hcol : ((l.take m).drop (k + 1))[0]? = some 58 := by
              unfold qColon at hq
              simp only [Bool.and_eq_true] at hq
              have := hq.1.1
              rw [List.head?_eq_getElem?] at this
              simpa using this
            have hsame : qPlain (l.drop 1) = k := by
              rw [← hk, drop_take_comm]
              rw [drop_take_comm] at hcol
              refine qPlain_same (l.drop 1) (m - 1) k 58 (by omega) ?_ (by decide)
              rw [List.getElem?_take, if_pos (by omega), List.getElem?_drop]
              rw [List.getElem?_take, if_pos (by omega), List.getElem?_drop] at hcol
              rw [← hcol]; congr 1; omega
            have hq' : qColon (l.drop (k + 1)) = true := by
              rw [drop_take_comm] at hq
              exact qColon_grow _ _ hq (by omega)
            obtain ⟨j', hj'⟩ : ∃ j', qPlain (l.drop (k + 2)) = j' := ⟨_, rfl⟩
            have hjj : j ≤ j' := by rw [← hj, ← hj', drop_take_comm]; exact qPlain_take _ _
            rw [qPat_3 l hh' k hsame hk0 hq' j' hj', if_pos (by omega)]
            omega
          · rw [if_neg hj0]; omega
    · rw [qPat_0 _ (by simpa using hh)]; omega

theorem qPat_pre (l : Bs) (m : Nat) (h : qPat l ≤ m) : qPat l ≤ qPat (l.take m) := by
  by_cases hp0 : qPat l = 0
  · omega
  · by_cases hh : (l.head? == some 63) = true
    · have hh' := hh
      rw [← head_take l m (by omega)] at hh'
      by_cases h0 : qPlain (l.drop 1) = 0
      · rw [qPat_1 _ hh h0]; omega
      · obtain ⟨k, hk⟩ : ∃ k, qPlain (l.drop 1) = k := ⟨_, rfl⟩
        have hk0 : 0 < k := by omega
        have h2 := qPat_plain l hh (by omega)
        have hk' : qPlain ((l.take m).drop 1) = k := by rw [drop_take_comm, qPlain_pre _ _ (by omega), hk]
        have h3 := qPat_plain (l.take m) hh' (by omega)
        cases hq : qColon (l.drop (k + 1))
        · rw [qPat_2 _ hh k hk hk0 hq]; omega
        · obtain ⟨j, hj⟩ : ∃ j, qPlain (l.drop (k + 2)) = j := ⟨_, rfl⟩
          rw [qPat_3 _ hh k hk hk0 hq j hj] at h ⊢
          by_cases hj0 : 0 < j
          · rw [if_pos hj0] at h ⊢
            have hq' : qColon ((l.take m).drop (k + 1)) = true := by rw [drop_take_comm]; exact qColon_pre _ _ hq (by omega)
            have hj' : qPlain ((l.take m).drop (k + 2)) = j := by rw [drop_take_comm, qPlain_pre _ _ (by omega), hj]
            rw [qPat_3 _ hh' k hk' hk0 hq' j hj', if_pos hj0]
            exact Nat.le_refl _
          · rw [if_neg hj0]; omega
    · rw [qPat_0 _ (by simpa using hh)]; omega

/-- If no rule takes more, and those that take the most take as much, the longest match is the same. -/
theorem longest_same {l l' : Bs} {op : Bool} {k n : Nat} (hf : qLongest l op = (k, n)) (hle : ∀ j, j < 6 → qLen l' op j ≤ qLen l op j) (hge : ∀ j, j < 6 → qLen l op j = n → n ≤ qLen l' op j) : qLongest l' op = (k, n) := by
  have hmax : ∀ j, j < 6 → qLen l op j ≤ n := fun j hj => by
    have := qB_max l op 6 j hj
    rw [qB_6, hf] at this; exact this
  have key : ∀ i, i ≤ 6 → (qB l' op i).2 ≤ (qB l op i).2 ∧ ((qB l op i).2 = n → qB l' op i = qB l op i) ∧ (qB l op i).2 ≤ n := by
    intro i
    induction i with
    | zero => intro _; exact ⟨Nat.le_refl _, fun _ => rfl, by simp [qB]⟩
    | succ i ih =>
      intro hi
      obtain ⟨h1, h2, h3⟩ := ih (by omega)
      have a1 := hle i (by omega)
      have a2 := hge i (by omega)
      have a3 := hmax i (by omega)
      simp only [qB, qBetter]
      by_cases hS : (qB l op i).2 = n
      · have he := h2 hS
        rw [he, if_neg (by omega), if_neg (by omega)]
        exact ⟨Nat.le_refl _, fun _ => rfl, h3⟩
      · by_cases hfn : qLen l op i = n
        · have hg := a2 hfn
          rw [if_pos (by omega), if_pos (by omega)]
          have : qLen l' op i = qLen l op i := by omega
          rw [this]
          exact ⟨Nat.le_refl _, fun _ => rfl, by simp only; omega⟩
        · split <;> split <;> refine ⟨?_, fun h => ?_, ?_⟩ <;> first | omega | (simp only at *; omega)
  have := key 6 (Nat.le_refl _)
  rw [qB_6, qB_6, hf] at this
  exact this.2.1 rfl

/-- What a colon at the end of a part asks of what is behind it. -/
def ColonOk (l : Bs) (m : Nat) : Prop := ∀ c, l[m - 1]? = some 58 → l[m]? = some c → 2 ≤ m → (∃ a, l[m - 2]? = some a ∧ cWord a.toNat = true) → (c == 58 || c == 61) = false

theorem longest_pre {l : Bs} {m : Nat} {op : Bool} {k n : Nat} (hf : qLongest l op = (k, n)) (hm : n ≤ m) (hc : ColonOk l m) : qLongest (l.take m) op = (k, n) := by
  refine longest_same hf ?_ ?_
  · intro j hj
    have : j = 0 ∨ j = 1 ∨ j = 2 ∨ j = 3 ∨ j = 4 ∨ j = 5 := by omega
    rcases this with rfl | rfl | rfl | rfl | rfl | rfl
    · exact qName_le_take l m
    · exact qInt_le_take l m op
    · exact qKey_le_take l m hc
    · exact qHash_le_take l m
    · exact qSign_le_take l m
    · exact qPat_le_take l m
  · intro j hj he
    refine Nat.le_trans (Nat.le_of_eq he.symm) ?_
    have hle : qLen l op j ≤ m := by omega
    have : j = 0 ∨ j = 1 ∨ j = 2 ∨ j = 3 ∨ j = 4 ∨ j = 5 := by omega
    rcases this with rfl | rfl | rfl | rfl | rfl | rfl
    · exact qName_pre l m hle
    · exact qInt_pre l m op hle
    · exact qKey_pre l m hle
    · exact qHash_pre l m hle
    · exact qSign_pre l m hle
    · exact qPat_pre l m hle

/- The last byte of a piece. -/
theorem qRun_last (k : Nat) : ∀ (l : Bs), 0 < qRun k l → ∃ a, l[qRun k l - 1]? = some a ∧ qCls k a.toNat = true
  | [], h => by simp [qRun] at h
  | b :: t, h => by
    simp only [qRun] at h ⊢
    split at h
    · rename_i hc
      rw [if_pos hc]
      by_cases h0 : qRun k t = 0
      · exact ⟨b, by rw [h0]; rfl, hc⟩
      · obtain ⟨a, ha, hw⟩ := qRun_last k t (by omega)
        exact ⟨a, by rw [show qRun k t + 1 - 1 = (qRun k t - 1) + 1 by omega]; exact ha, hw⟩
    · omega

theorem plain_last' (l : Bs) (h : 0 < qPlain l) : ∃ a, l[qPlain l - 1]? = some a ∧ cWord a.toNat = true := qGo_last l 0 0 false (by omega) h

theorem word_58 {a : UInt8} (h : cWord a.toNat = true) : a ≠ 58 := by rintro rfl; exact absurd h (by decide)

theorem name_last (l : Bs) (h : 0 < qName l) : l[qName l - 1]? ≠ some 58 := by
  rw [qName_eq] at h ⊢
  by_cases hc : qualB l (qPlain l) = true
  · rw [if_pos hc] at h ⊢
    obtain ⟨c1, c2, c3⟩ := qualB_inv hc
    by_cases h0 : qRun 5 (l.drop (qPlain l + 2)) = 0
    · rw [h0, show qPlain l + 2 + 0 - 1 = qPlain l + 1 by omega]
      intro e; rw [e] at c3; exact absurd c3 (by decide)
    · obtain ⟨a, ha, hw⟩ := qRun_last 5 _ (Nat.pos_of_ne_zero h0)
      rw [List.getElem?_drop] at ha
      rw [show qPlain l + 2 + qRun 5 (l.drop (qPlain l + 2)) - 1 = qPlain l + 2 + (qRun 5 (l.drop (qPlain l + 2)) - 1) by omega, ha]
      intro e; cases e; exact absurd hw (by decide)
  · rw [if_neg hc] at h ⊢
    obtain ⟨a, ha, hw⟩ := plain_last' l h
    rw [ha]; intro e; cases e; exact absurd hw (by decide)

theorem int_last (l : Bs) (op : Bool) (h : 0 < qInt l op) : l[qInt l op - 1]? ≠ some 58 := by
  by_cases hc : (l.head? == some 45 && !op) = true
  · rw [qInt_minus l op hc _ rfl] at h ⊢
    split at h
    · rename_i h0
      rw [if_pos h0]
      obtain ⟨a, ha, hw⟩ := qRun_last 1 _ h0
      rw [List.getElem?_drop] at ha
      rw [show 1 + qRun 1 (l.drop 1) - 1 = 1 + (qRun 1 (l.drop 1) - 1) by omega, ha]
      intro e; cases e; exact absurd hw (by decide)
    · omega
  · rw [qInt_plain l op (by simpa using hc) _ rfl] at h ⊢
    split at h
    · rename_i h0
      rw [if_pos h0]
      obtain ⟨a, ha, hw⟩ := qRun_last 1 _ h0
      rw [ha]
      intro e; cases e; exact absurd hw (by decide)
    · omega

theorem key_last (l : Bs) (h : 0 < qKey l) (c : UInt8) (hc : l[qKey l]? = some c) : (c == 58 || c == 61) = false := by
  unfold qKey at h hc
  simp only at h hc
  split at h
  · rename_i hq
    rw [if_pos hq] at hc
    simp only [Bool.and_eq_true] at hq
    have h2 := hq.2
    unfold qColon at h2
    rw [List.getElem?_drop, hc] at h2
    simp only [Bool.and_eq_true, Bool.not_eq_true', beq_eq_false_iff_ne, ne_eq, Option.some.injEq] at h2
    simp [h2.1.2, h2.2]
  · omega

theorem hash_last (l : Bs) (h : 0 < qHash l) : l[qHash l - 1]? ≠ some 58 := by
  unfold qHash at h ⊢
  split at h
  · rename_i hc
    rw [if_pos hc]
    match l, hc with
    | [], hc => exact absurd hc (by decide)
    | [a], hc => simp at hc
    | a :: b :: t, hc =>
      simp at hc
      simp
      rintro rfl
      simp at hc
  · omega

theorem sign_last (l : Bs) (h : 0 < qSign l) (h58 : l[qSign l - 1]? = some 58) : qSign l = 2 ∧ l[0]? = some 58 := by
  unfold qSign at h h58 ⊢
  split at h
  · rename_i hc
    rw [if_pos hc] at h58 ⊢
    refine ⟨rfl, ?_⟩
    match l, hc with
    | [], hc => exact absurd hc (by decide)
    | [a], hc => simp [qTwo] at hc
    | a :: b :: t, hc =>
      simp at h58
      subst h58
      simp [qTwo] at hc
      simp [hc]
  · rename_i hc
    rw [if_neg hc] at h58
    split at h
    · rename_i b hb
      simp only [hb] at h58
      split at h
      · rename_i h1
        rw [if_pos h1] at h58
        rw [List.head?_eq_getElem?] at hb
        rw [show 1 - 1 = 0 from rfl, hb] at h58
        cases h58
        exact absurd h1 (by decide)
      · omega
    · omega

theorem pat_last (l : Bs) (h : 0 < qPat l) : l[qPat l - 1]? ≠ some 58 := by
  by_cases hh : (l.head? == some 63) = true
  · by_cases h0 : qPlain (l.drop 1) = 0
    · rw [qPat_1 _ hh h0] at h; omega
    · obtain ⟨k, hk⟩ : ∃ k, qPlain (l.drop 1) = k := ⟨_, rfl⟩
      have hk0 : 0 < k := by omega
      have hend : l[k + 1 - 1]? ≠ some 58 := by
        obtain ⟨a, ha, hw⟩ := plain_last' (l.drop 1) (by omega)
        rw [List.getElem?_drop, hk] at ha
        rw [show k + 1 - 1 = 1 + (k - 1) by omega, ha]
        intro e; cases e; exact absurd hw (by decide)
      cases hq : qColon (l.drop (k + 1))
      · rw [qPat_2 _ hh k hk hk0 hq]; exact hend
      · obtain ⟨j, hj⟩ : ∃ j, qPlain (l.drop (k + 2)) = j := ⟨_, rfl⟩
        rw [qPat_3 _ hh k hk hk0 hq j hj]
        by_cases hj0 : 0 < j
        · rw [if_pos hj0]
          obtain ⟨a, ha, hw⟩ := plain_last' (l.drop (k + 2)) (by omega)
          rw [List.getElem?_drop, hj] at ha
          rw [show k + 2 + j - 1 = k + 2 + (j - 1) by omega, ha]
          intro e; cases e; exact absurd hw (by decide)
        · rw [if_neg hj0]; exact hend
  · rw [qPat_0 _ (by simpa using hh)] at h; omega

theorem nest_last (l : Bs) (i op : Nat) : (qNestGo l i op).1 = 0 → l[(qNestGo l i op).2 - i - 1]? = some 47 := by
  induction l, i, op using qNestGo.induct with
  | case1 a b t i h => rw [qNestGo, if_pos h, if_pos rfl]; simp
  | case2 a b t i op h h2 ih =>
    rw [qNestGo, if_pos h, if_neg h2]
    intro h0
    have := nest_ge _ _ _ h0
    have h1 := ih h0
    rw [show (qNestGo t (i + 2) (op + 1)).2 - i - 1 = ((qNestGo t (i + 2) (op + 1)).2 - (i + 2) - 1) + 2 by omega]
    exact h1
  | case3 a b t i h h2 =>
    rw [qNestGo, if_neg h, if_pos h2, if_pos rfl]
    intro _
    simp at h2
    simp [h2]
  | case4 a b t i op h h2 h3 ih =>
    rw [qNestGo, if_neg h, if_pos h2, if_neg h3]
    intro h0
    have := nest_ge _ _ _ h0
    have h1 := ih h0
    rw [show (qNestGo t (i + 2) (op - 1)).2 - i - 1 = ((qNestGo t (i + 2) (op - 1)).2 - (i + 2) - 1) + 2 by omega]
    exact h1
  | case5 a b t i op h h2 ih =>
    rw [qNestGo, if_neg h, if_neg h2]
    intro h0
    have := nest_ge _ _ _ h0
    have h1 := ih h0
    rw [show (qNestGo (b :: t) (i + 1) op).2 - i - 1 = ((qNestGo (b :: t) (i + 1) op).2 - (i + 1) - 1) + 1 by omega]
    exact h1
  | case6 i op a => simp [qNestGo]
  | case7 i op => simp [qNestGo]

theorem index_at : ∀ (l : Bs) (c : UInt8), (0 : Int) ≤ Lib.indexByte l c → l[(Lib.indexByte l c).toNat]? = some c
  | [], c, h => by simp [Lib.indexByte] at h
  | b :: t, c, h => by
    simp only [Lib.indexByte] at h ⊢
    cases hc : (b == c)
    · rw [hc] at h
      simp only [Bool.false_eq_true, if_false] at h ⊢
      cases hn : (Lib.indexByte t c == -1)
      · rw [hn] at h
        simp only [Bool.false_eq_true, if_false] at h ⊢
        have hge := Lib.indexByte_ge t c
        simp only [beq_eq_false_iff_ne] at hn
        have := index_at t c (by omega)
        rw [show (Lib.indexByte t c + 1).toNat = (Lib.indexByte t c).toNat + 1 by omega]
        exact this
      · rw [hn] at h; simp at h
    · simp only [beq_iff_eq] at hc
      subst hc; simp

theorem blank_comment (l : Bs) (h : 0 < qRun 7 l) : qComment l = (0, 0) := by
  match l, h with
  | [], h => simp [qRun] at h
  | b :: t, h =>
    have hb : qCls 7 b.toNat = true := by
      rw [qRun] at h
      split at h
      · assumption
      · omega
    have hne : ∀ c, ((b :: t).take 2 == [47, c]) = false := by
      intro c
      cases hcc : ((b :: t).take 2 == [47, c]) with
      | false => rfl
      | true =>
        exfalso
        cases t with
        | nil => simp at hcc
        | cons y z =>
          simp at hcc
          rw [hcc.1] at hb
          exact absurd hb (by decide)
    exact qC_none _ (hne 47) (hne 42)
end Go.Proofs.YtdfkkeeohbgmbaaDoor
