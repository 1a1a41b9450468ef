/- The reader of package lex, part 1 (what is wanted of it). -/
import Derived.Test.YtopbmndjnjnmcaaGreatDoorA25
import Derived.Lib.ItoaLen
import Derived.Lib.AtoiAllCases
/- Lists: what the rules, the pieces and the integers are, and the reference's patterns over lists of bytes. -/
namespace Go.Proofs.YtopbmndjnjnmcaaGreatDoor
open Go.RowKit Lx

theorem qRun_take (k : Nat) : ∀ (l : Bs) (m : Nat), qRun k (l.take m) ≤ qRun k l
  | [], m => by simp
  | b :: t, 0 => by simp [qRun]
  | b :: t, m + 1 => by
    have := qRun_take k t m
    simp only [List.take_succ_cons, qRun]
    split <;> omega

/-- A step of plain, opened. -/
theorem qGo_cons (b : UInt8) (t : Bs) (i size : Nat) (letter : Bool) : qGo (b :: t) i size letter = match qStep b i size letter with | none => size | some (size', letter') => qGo t (i + 1) size' letter' := rfl

theorem qStep_some {b : UInt8} {i size size' : Nat} {letter letter' : Bool} (h : qStep b i size letter = some (size', letter')) : (size' = size ∨ size' = i + 1) ∧ cWord b.toNat = true := by
  unfold qStep at h
  split at h
  · cases h
  · rename_i hc
    simp only [Bool.or_eq_true, Bool.not_eq_true', not_or] at hc
    simp only [Option.some.injEq, Prod.mk.injEq] at h
    refine ⟨?_, by simpa using hc.1⟩
    rw [← h.1]
    split
    · exact .inr rfl
    · exact .inl rfl

theorem qGo_ge : ∀ (l : Bs) (i size : Nat) (letter : Bool), size ≤ i → size ≤ qGo l i size letter
  | [], _, _, _, _ => by simp [qGo]
  | b :: t, i, size, letter, h => by
    rw [qGo_cons]
    split
    · omega
    · rename_i s' l' hs
      have h1 := (qStep_some hs).1
      have := qGo_ge t (i + 1) s' l' (by omega)
      omega

theorem qGo_take : ∀ (l : Bs) (m i size : Nat) (letter : Bool), size ≤ i → qGo (l.take m) i size letter ≤ qGo l i size letter
  | [], m, i, size, letter, _ => by simp
  | b :: t, 0, i, size, letter, h => by
    have := qGo_ge (b :: t) i size letter h
    simpa [qGo] using this
  | b :: t, m + 1, i, size, letter, h => by
    simp only [List.take_succ_cons, qGo_cons]
    split
    · omega
    · rename_i s' l' hs
      have h1 := (qStep_some hs).1
      exact qGo_take t m (i + 1) s' l' (by omega)

theorem qPlain_take (l : Bs) (m : Nat) : qPlain (l.take m) ≤ qPlain l := qGo_take l m 0 0 false (by omega)

/-- A byte that is in no name ends a name. -/
theorem qGo_stop : ∀ (l : Bs) (j i size : Nat) (letter : Bool) (c : UInt8), l[j]? = some c → cWord c.toNat = false → qGo l i size letter = qGo (l.take j) i size letter
  | [], j, i, size, letter, c, h, _ => by simp at h
  | b :: t, 0, i, size, letter, c, h, hc => by
    simp at h; subst h
    rw [qGo_cons]
    have : qStep b i size letter = none := by unfold qStep; rw [hc]; simp
    rw [this]; simp [qGo]
  | b :: t, j + 1, i, size, letter, c, h, hc => by
    simp only [List.take_succ_cons, qGo_cons]
    split
    · rfl
    · exact qGo_stop t j (i + 1) _ _ c (by simpa using h) hc

theorem qPlain_stop (l : Bs) (j : Nat) (c : UInt8) (h : l[j]? = some c) (hc : cWord c.toNat = false) : qPlain l = qPlain (l.take j) := qGo_stop l j 0 0 false c h hc

/-- A name that ends ahead of such a byte is the same in a longer text. -/
theorem qPlain_same (l : Bs) (m j : Nat) (c : UInt8) (hj : j < m) (h : (l.take m)[j]? = some c) (hc : cWord c.toNat = false) : qPlain l = qPlain (l.take m) := by
  have h' : l[j]? = some c := by rw [List.getElem?_take] at h; rwa [if_pos hj] at h
  rw [qPlain_stop l j c h' hc, qPlain_stop (l.take m) j c h hc, List.take_take, Nat.min_eq_left (by omega)]

theorem drop_take_comm (l : Bs) (m k : Nat) : (l.take m).drop k = (l.drop k).take (m - k) := by rw [List.drop_take]

/-- Whether a name goes on behind its first part. -/
def qualB (l : Bs) (n : Nat) : Bool := decide (0 < n) && l[n]? == some 64 && (match l[n + 1]? with | some b => cSmall b.toNat || cDigit b.toNat | none => false)
theorem qName_eq (l : Bs) : qName l = if qualB l (qPlain l) = true then qPlain l + 2 + qRun 5 (l.drop (qPlain l + 2)) else qPlain l := rfl
theorem qName_plain (l : Bs) : qPlain l ≤ qName l := by
  rw [qName_eq]
  split <;> omega

theorem qualB_inv {l : Bs} {n : Nat} (h : qualB l n = true) : 0 < n ∧ l[n]? = some 64 ∧ (match l[n + 1]? with | some b => cSmall b.toNat || cDigit b.toNat | none => false) = true := by
  unfold qualB at h
  simp only [Bool.and_eq_true, beq_iff_eq, decide_eq_true_eq] at h
  exact ⟨h.1.1, h.1.2, h.2⟩

theorem qColon_grow (l : Bs) (m : Nat) (h : qColon (l.take m) = true) (hm : 2 ≤ m) : qColon l = true := by
  match l, m, hm, h with
  | [], m, _, h => simpa using h
  | [a], m + 2, _, h => simpa using h
  | a :: b :: t, m + 2, _, h => simpa [qColon] using h

theorem head_take (l : Bs) (m : Nat) (hm : 0 < m) : (l.take m).head? = l.head? := by
  cases l with
  | nil => simp
  | cons a t => cases m with
    | zero => omega
    | succ m => rfl

theorem qPat_plain (l : Bs) (h : (l.head? == some 63) = true) (hp : 0 < qPlain (l.drop 1)) : qPlain (l.drop 1) + 1 ≤ qPat l := by
  unfold qPat; rw [if_pos h]; simp only; rw [if_neg (by omega)]
  split <;> omega

/-- The longest match is one of the rules', and none is longer. -/
theorem qB_max (l : Bs) (op : Bool) : ∀ (k j : Nat), j < k → qLen l op j ≤ (qB l op k).2
  | 0, j, h => by omega
  | k + 1, j, h => by
    simp only [qB, qBetter]
    by_cases hj : j = k
    · subst hj; split
      · exact Nat.le_refl _
      · omega
    · have := qB_max l op k j (by omega)
      split
      · show qLen l op j ≤ qLen l op k; omega
      · exact this
theorem qB_is (l : Bs) (op : Bool) : ∀ (k : Nat), (qB l op k).2 = 0 ∨ ∃ j, j < k ∧ (qB l op k).1 = j + 1 ∧ qLen l op j = (qB l op k).2
  | 0 => .inl rfl
  | k + 1 => by
    simp only [qB, qBetter]
    split
    · exact .inr ⟨k, by omega, rfl, rfl⟩
    · rcases qB_is l op k with h | ⟨j, hj, h1, h2⟩
      · exact .inl h
      · exact .inr ⟨j, by omega, h1, h2⟩

theorem plain_minus (t : Bs) : qPlain (45 :: t) = 0 := by
  unfold qPlain; rw [qGo_cons]
  have : qStep 45 0 0 false = none := by decide
  rw [this]
theorem name_minus (t : Bs) : qName (45 :: t) = 0 := by
  unfold qName; simp only [plain_minus]; simp
theorem key_minus (t : Bs) : qKey (45 :: t) = 0 := by
  unfold qKey; simp only [plain_minus]; simp

end Go.Proofs.YtopbmndjnjnmcaaGreatDoor

namespace Go.Proofs.YtopbmndjnjnmcaaGreatDoor
open Go.RowKit Lx

/-- Every piece is what next gives at its place. -/
theorem qFrom_mem (l : Bs) : ∀ (ps : List Pc) (x : St), qFrom l x = (ps, none) → ∀ (k : Nat) (p : Pc), ps[k]? = some p → ∃ op, p.at_ < l.length ∧ (qNext l p.at_ op).er = 0 ∧ (qNext l p.at_ op).kind = p.kind ∧ (qNext l p.at_ op).len = p.len := by
  intro ps
  induction ps with
  | nil => intro x _ k p hp; simp at hp
  | cons p0 r ih =>
    intro x h k p hp
    obtain ⟨a1, a2, a3, a4, a5⟩ := qFrom_inv h
    cases k with
    | zero =>
      simp at hp; subst hp
      exact ⟨x.op, by rw [a4]; exact a1, by rw [a4]; exact a2, by rw [a4], by rw [a4]⟩
    | succ k => exact ih _ a5 k p (by simpa using hp)

end Go.Proofs.YtopbmndjnjnmcaaGreatDoor

namespace Go.Proofs.YtopbmndjnjnmcaaGreatDoor
open Go.RowKit Lx

theorem parse_snoc : ∀ (l : Bs) (acc u : Nat) (c : UInt8), Lib.parseUint10 acc l = .ok u → 48 ≤ c.toNat → c.toNat ≤ 57 → u < 1844674407370955162 → u * 10 + (c.toNat - 48) < 18446744073709551616 → Lib.parseUint10 acc (l ++ [c]) = .ok (u * 10 + (c.toNat - 48))
  | [], acc, u, c, h, h1, h2, h3, h4 => by
    simp only [Lib.parseUint10] at h
    injection h with h; subst h
    simp only [List.nil_append, Lib.parseUint10]
    rw [if_pos ⟨h1, h2⟩, if_neg (by omega), if_neg (by omega)]
  | a :: r, acc, u, c, h, h1, h2, h3, h4 => by
    simp only [List.cons_append, Lib.parseUint10] at h ⊢
    split at h
    · rename_i ha
      rw [if_pos ha]
      split at h
      · cases h
      · rename_i hb
        rw [if_neg hb]
        split at h
        · cases h
        · rename_i hd
          rw [if_neg hd]
          exact parse_snoc r _ u c h h1 h2 h3 h4
    · cases h

theorem dgt (d : Nat) (h : d < 10) : (UInt8.ofNat (48 + d)).toNat = 48 + d := by
  simp [UInt8.toNat_ofNat']; omega

theorem parse_dec (u : Nat) : u < 18446744073709551616 → Lib.parseUint10 0 (Lib.decDigits u) = .ok u := by
  induction u using Nat.strongRecOn with
  | _ u ih =>
    intro hu
    rw [Lib.decDigits]
    split
    · rename_i h
      simp only [Lib.parseUint10, dgt u h]
      rw [if_pos (by omega), if_neg (by omega), if_neg (by omega)]
      congr 1; omega
    · rename_i h
      have hd := dgt (u % 10) (Nat.mod_lt _ (by omega))
      have := parse_snoc (Lib.decDigits (u / 10)) 0 (u / 10) (UInt8.ofNat (48 + u % 10)) (ih (u / 10) (by omega) (by omega)) (by omega) (by omega) (by omega) (by omega)
      rw [this]; congr 1; omega

theorem dec_digits (u : Nat) : ∀ c ∈ Lib.decDigits u, 48 ≤ c.toNat ∧ c.toNat ≤ 57 := by
  induction u using Nat.strongRecOn with
  | _ u ih =>
    intro c hc
    rw [Lib.decDigits] at hc
    split at hc
    · rename_i h
      simp only [List.mem_singleton] at hc
      subst hc; rw [dgt u h]; omega
    · rename_i h
      rw [List.mem_append] at hc
      rcases hc with hc | hc
      · exact ih (u / 10) (by omega) c hc
      · simp only [List.mem_singleton] at hc
        subst hc; rw [dgt _ (Nat.mod_lt _ (by omega))]; omega

theorem dec_ne (u : Nat) : Lib.decDigits u ≠ [] := by
  intro h
  have h1 := Lib.decDigits_length u
  have h2 := Lib.nDigits_pos u
  rw [h] at h1; simp at h1; omega

theorem dec_cons (u : Nat) : ∃ c t, Lib.decDigits u = c :: t ∧ 48 ≤ c.toNat ∧ c.toNat ≤ 57 := by
  cases h : Lib.decDigits u with
  | nil => exact absurd h (dec_ne u)
  | cons c t => exact ⟨c, t, rfl, dec_digits u c (by rw [h]; simp)⟩

theorem parseMag_dec (u : Nat) (hu : u < 18446744073709551616) : Lib.parseMag (Lib.decDigits u) = .ok u := by
  unfold Lib.parseMag; rw [if_neg (dec_ne u)]; exact parse_dec u hu

/-- Atoi undoes Itoa. -/
theorem atoi_itoa (n : Int) (h0 : -9223372036854775808 ≤ n) (h1 : n ≤ 9223372036854775807) : Lib.atoiAll (Lib.itoa n) = .ok n := by
  unfold Lib.itoa
  split
  · rename_i hn
    unfold Lib.atoiAll
    simp only
    rw [if_pos (by decide)]
    rw [parseMag_dec n.natAbs (by omega)]
    simp only
    rw [if_neg (by rintro ⟨h, _⟩; exact h (by decide)), if_neg (by omega), if_pos (by decide)]
    congr 1; omega
  · rename_i hn
    obtain ⟨c, t, hd, c1, c2⟩ := dec_cons n.toNat
    have hp := parseMag_dec n.toNat (by omega)
    rw [hd] at hp ⊢
    unfold Lib.atoiAll
    simp only
    rw [if_neg (by omega), hp]
    simp only
    rw [if_neg (by omega), if_neg (by omega), if_neg (by omega)]
    congr 1; omega

theorem qCanon_itoa (n : Int) (h0 : -9223372036854775808 ≤ n) (h1 : n ≤ 9223372036854775807) : qCanon (Lib.itoa n) = true := by
  unfold qCanon; rw [atoi_itoa n h0 h1]; simp

theorem qRun_digits : ∀ (l : Bs), (∀ c ∈ l, 48 ≤ c.toNat ∧ c.toNat ≤ 57) → qRun 1 l = l.length
  | [], _ => rfl
  | a :: t, h => by
    have ha := h a (by simp)
    have := qRun_digits t (fun c hc => h c (by simp [hc]))
    rw [qRun, if_pos (by simp [qCls, cDigit]; omega), this]; rfl

theorem not_front (c : UInt8) (h : 48 ≤ c.toNat ∧ c.toNat ≤ 57) : cSmall c.toNat = false ∧ cFront c.toNat = false := by
  constructor
  · simp [cSmall]; omega
  · simp [cFront]; omega

theorem plain_digit (c : UInt8) (t : Bs) (h : 48 ≤ c.toNat ∧ c.toNat ≤ 57) : qPlain (c :: t) = 0 := by
  unfold qPlain; rw [qGo_cons]
  have : qStep c 0 0 false = none := by
    unfold qStep; rw [(not_front c h).1, (not_front c h).2]; simp
  rw [this]

theorem u8_ne (c : UInt8) (d : UInt8) (h : c.toNat ≠ d.toNat) : (c == d) = false := by
  simp only [beq_eq_false_iff_ne]; intro e; subst e; exact h rfl

theorem better_no {p : Nat × Nat} {k n : Nat} (h : n ≤ p.2) : qBetter p k n = p := if_neg (by omega)
theorem longest_two {l : Bs} {op : Bool} {n : Nat} (h1 : qName l = 0) (h2 : qInt l op = n) (hn : 0 < n) (h3 : qKey l ≤ n) (h4 : qHash l ≤ n) (h5 : qSign l ≤ n) (h6 : qPat l ≤ n) : qLongest l op = (2, n) := by
  unfold qLongest
  have e1 : qBetter (qBetter (0, 0) 1 (qName l)) 2 (qInt l op) = (2, n) := by
    rw [h1, h2, better_no (p := (0, 0)) (Nat.le_refl 0)]; exact if_pos hn
  rw [e1, better_no (p := (2, n)) h3, better_no (p := (2, n)) h4, better_no (p := (2, n)) h5, better_no (p := (2, n)) h6]

/-- The rules at the text of an integer. -/
theorem longest_itoa (n : Int) : qLongest (Lib.itoa n) false = (2, (Lib.itoa n).length) ∧ qComment (Lib.itoa n) = (0, 0) ∧ qRun 7 (Lib.itoa n) = 0 ∧ ((Lib.itoa n)[0]? == some 35) = false ∧ 1 ≤ (Lib.itoa n).length := by
  unfold Lib.itoa
  split
  · rename_i hn
    obtain ⟨c, t, hd, c1, c2⟩ := dec_cons n.natAbs
    have hdg := dec_digits n.natAbs
    rw [hd] at hdg ⊢
    have hr : qRun 1 (c :: t) = t.length + 1 := qRun_digits _ hdg
    have h2 : qInt (45 :: c :: t) false = t.length + 2 := by
      rw [qInt_minus (45 :: c :: t) false (by simp) (t.length + 1) hr, if_pos (by omega)]; omega
    have h4 : qHash (45 :: c :: t) = 0 := by unfold qHash; rw [if_neg (by simp)]
    have h5 : qSign (45 :: c :: t) ≤ 1 := by
      unfold qSign; rw [if_neg (by simp [qTwo])]; simp; split <;> omega
    have h6 : qPat (45 :: c :: t) = 0 := qPat_0 _ (by simp)
    refine ⟨?_, by unfold qComment; rw [if_neg (by simp), if_neg (by simp)], by rw [qRun, if_neg (by decide)], by simp, by simp⟩
    exact longest_two (name_minus _) h2 (by simp) (by rw [key_minus]; omega) (by omega) (by simp only [List.length_cons]; omega) (by omega)
  · rename_i hn
    obtain ⟨c, t, hd, c1, c2⟩ := dec_cons n.toNat
    have hdg := dec_digits n.toNat
    rw [hd] at hdg ⊢
    have hr : qRun 1 (c :: t) = t.length + 1 := qRun_digits _ hdg
    have hne : ∀ d : UInt8, (d.toNat < 48 ∨ 57 < d.toNat) → (c == d) = false := fun d h => u8_ne c d (by omega)
    have hp := plain_digit c t ⟨c1, c2⟩
    have h1 : qName (c :: t) = 0 := by unfold qName; simp only [hp]; simp
    have h3 : qKey (c :: t) = 0 := by unfold qKey; simp only [hp]; simp
    have h2 : qInt (c :: t) false = t.length + 1 := by
      rw [qInt_plain _ false (by simp [hne 45 (by decide)]) (t.length + 1) hr]; simp
    have hl2 : ∀ (a b : UInt8), (a.toNat < 48 ∨ 57 < a.toNat) → ((c :: t).take 2 == [a, b]) = false := by
      intro a b ha
      cases t with
      | nil => simp
      | cons x y =>
        have := hne a ha
        simp only [beq_eq_false_iff_ne] at this
        simp [this]
    have h4 : qHash (c :: t) = 0 := by unfold qHash; rw [hl2 35 116 (by decide), hl2 35 102 (by decide)]; rfl
    have h5 : qSign (c :: t) = 0 := by
      unfold qSign
      have e1 : qTwo.contains ((c :: t).take 2) = false := by
        simp only [qTwo, List.contains_cons, List.contains_nil, Bool.or_false]
        rw [hl2 58 61 (by decide), hl2 58 58 (by decide), hl2 61 62 (by decide), hl2 61 61 (by decide), hl2 60 61 (by decide), hl2 62 61 (by decide)]; rfl
      have e2 : qOne.contains c = false := by
        simp only [qOne, List.contains_cons, List.contains_nil, Bool.or_false]
        simp only [hne 40 (by decide), hne 41 (by decide), hne 91 (by decide), hne 93 (by decide), hne 123 (by decide), hne 125 (by decide), hne 44 (by decide), hne 59 (by decide), hne 46 (by decide), hne 61 (by decide), hne 60 (by decide), hne 62 (by decide), hne 43 (by decide), hne 45 (by decide), hne 42 (by decide), hne 47 (by decide), hne 38 (by decide), hne 124 (by decide), hne 126 (by decide), hne 63 (by decide)]
        rfl
      rw [if_neg (by rw [e1]; simp)]
      simp only [List.head?_cons]
      rw [if_neg (by rw [e2]; simp)]
    have h6 : qPat (c :: t) = 0 := qPat_0 _ (by simp [hne 63 (by decide)])
    refine ⟨?_, by unfold qComment; rw [hl2 47 47 (by decide), hl2 47 42 (by decide)]; rfl, ?_, by simp only [List.getElem?_cons_zero]; exact hne 35 (by decide), by simp⟩
    · exact longest_two h1 h2 (by simp) (by omega) (by omega) (by omega) (by omega)
    · rw [qRun, if_neg]
      simp [qCls, cBlank]; omega

theorem qKind_itoa (n : Int) (h0 : -9223372036854775808 ≤ n) (h1 : n ≤ 9223372036854775807) : qKind (Lib.itoa n) = 2 := by
  obtain ⟨a1, a2, a3, a4, a5⟩ := longest_itoa n
  have hl := Lib.itoa_length_le n h0 h1
  have hca := qCanon_itoa n h0 h1
  generalize Lib.itoa n = l at *
  have hck : qCheck l 0 2 l.length = 0 := by
    rw [qCheck_x, if_neg, if_neg (by omega), if_neg (by omega)]
    · rw [a4]; simp
    · simp only [List.drop_zero, List.take_length, hca]
      unfold qAt; rw [List.getElem?_eq_none (by omega)]; simp
  have hn : qNext l 0 false = ⟨0, 2, l.length⟩ := by
    rw [qNext_c false (by rw [List.drop_zero, a2]) (by rw [List.drop_zero, a2]; simp) (by rw [List.drop_zero, a3]; simp)]
    rw [List.drop_zero, List.take_of_length_le (by omega), a1]
    simp only [hck]
    rw [if_neg (by simp)]
  have e : qPieces l = qFrom l ⟨0, 0, false⟩ := if_neg (by omega)
  unfold qKind
  rw [e, qFrom_cons l ⟨0, 0, false⟩ (by simp only; omega) (by simp only; rw [hn]) (by simp)]
  simp only [hn]
  unfold kindOf
  simp
end Go.Proofs.YtopbmndjnjnmcaaGreatDoor

namespace Go.Proofs.YtopbmndjnjnmcaaGreatDoor
open Go.RowKit Lx

/- Ahead of a space. -/
theorem qRun_space (k : Nat) (hk : qCls k 32 = false) (r : Bs) : ∀ v : Bs, qRun k (v ++ 32 :: r) = qRun k v
  | [] => by simp [qRun, hk]
  | a :: t => by
    simp only [List.cons_append, qRun]
    rw [qRun_space k hk r t]

theorem qPlain_space (v r : Bs) : qPlain (v ++ 32 :: r) = qPlain v := by
  rw [qPlain_stop (v ++ 32 :: r) v.length 32 (by simp) (by decide)]
  simp

theorem get_space (v r : Bs) (n : Nat) (hn : n < v.length) : (v ++ 32 :: r)[n]? = v[n]? := List.getElem?_append_left hn
theorem drop_space (v r : Bs) (n : Nat) (hn : n ≤ v.length) : (v ++ 32 :: r).drop n = v.drop n ++ 32 :: r := by
  rw [List.drop_append_of_le_length hn]

theorem qColon_space (v r : Bs) : qColon (v ++ 32 :: r) = qColon v := by
  match v with
  | [] => simp [qColon]
  | [a] => simp [qColon]
  | a :: b :: t => simp [qColon]

theorem qualB_space (v r : Bs) (n : Nat) (hn : n ≤ v.length) : qualB (v ++ 32 :: r) n = qualB v n := by
  unfold qualB
  rcases Nat.lt_or_ge n v.length with h | h
  · rw [get_space v r n h]
    rcases Nat.lt_or_ge (n + 1) v.length with h' | h'
    · rw [get_space v r (n + 1) h']
    · have hn1 : n + 1 = v.length := by omega
      rw [hn1, List.getElem?_append_right (Nat.le_refl _), List.getElem?_eq_none (l := v) (i := v.length) (Nat.le_refl _)]
      simp [cSmall, cDigit]
  · obtain rfl : n = v.length := by omega
    rw [List.getElem?_append_right (Nat.le_refl _), List.getElem?_eq_none (l := v) (i := v.length) (Nat.le_refl _)]
    simp

theorem qualB_len {l : Bs} {n : Nat} (h : qualB l n = true) : n + 1 < l.length := by
  obtain ⟨_, _, h3⟩ := qualB_inv h
  rcases Nat.lt_or_ge (n + 1) l.length with h' | h'
  · exact h'
  · rw [List.getElem?_eq_none (by omega)] at h3; simp at h3

theorem qName_space (v r : Bs) : qName (v ++ 32 :: r) = qName v := by
  have hp := qPlain_le v
  rw [qName_eq, qName_eq, qPlain_space, qualB_space v r _ hp]
  split
  · rename_i h
    have := qualB_len h
    rw [drop_space v r _ (by omega), qRun_space 5 (by decide)]
  · rfl

theorem qInt_space (v r : Bs) (op : Bool) : qInt (v ++ 32 :: r) op = qInt v op := by
  match v with
  | [] => cases op <;> simp [qInt, qRun, qCls, cDigit]
  | a :: t =>
    unfold qInt
    simp only [List.cons_append, List.head?_cons]
    by_cases h : (some a == some 45 && !op) = true
    · simp only [h, if_true, List.drop_succ_cons, List.drop_zero, qRun_space 1 (by decide) r t]
    · simp only [h, if_false, Bool.false_eq_true, List.drop_zero]
      rw [← List.cons_append, qRun_space 1 (by decide) r (a :: t)]

theorem qKey_space (v r : Bs) : qKey (v ++ 32 :: r) = qKey v := by
  unfold qKey
  simp only [qPlain_space]
  rw [drop_space v r _ (qPlain_le v), qColon_space]

theorem qHash_space (v r : Bs) : qHash (v ++ 32 :: r) = qHash v := by
  match v with
  | [] => simp [qHash]
  | [a] => simp [qHash]
  | a :: b :: t => simp [qHash]

theorem qSign_space (v r : Bs) : qSign (v ++ 32 :: r) = qSign v := by
  match v with
  | [] => simp [qSign, qTwo, qOne]
  | [a] => simp [qSign, qTwo]
  | a :: b :: t => simp [qSign]

theorem qPat_space (v r : Bs) : qPat (v ++ 32 :: r) = qPat v := by
  match v with
  | [] => simp [qPat]
  | a :: t =>
    unfold qPat
    simp only [List.cons_append, List.head?_cons, List.drop_succ_cons, List.drop_zero, qPlain_space]
    have hp := qPlain_le t
    rw [drop_space t r _ hp, qColon_space]
    split
    · split
      · rfl
      · rename_i h0
        cases hc : qColon (t.drop (qPlain t))
        · simp
        · have hl := qColon_len _ hc
          simp only [List.length_drop] at hl
          rw [drop_space t r _ (by omega), qPlain_space]
    · rfl

theorem qLen_space (v r : Bs) (op : Bool) (j : Nat) : qLen (v ++ 32 :: r) op j = qLen v op j := by
  unfold qLen
  split
  · exact qName_space v r
  · exact qInt_space v r op
  · exact qKey_space v r
  · exact qHash_space v r
  · exact qSign_space v r
  · exact qPat_space v r

theorem qB_cong (l l' : Bs) (op : Bool) (h : ∀ j, qLen l op j = qLen l' op j) : ∀ k, qB l op k = qB l' op k
  | 0 => rfl
  | k + 1 => by simp only [qB]; rw [qB_cong l l' op h k, h]

/-- Ahead of a space the longest match is that of the text that ends there. -/
theorem longest_space (v r : Bs) (op : Bool) : qLongest ((v ++ 32 :: r).take 100) op = qLongest (v.take 100) op := by
  rcases Nat.lt_or_ge v.length 100 with h | h
  · rw [List.take_append, List.take_of_length_le (l := v) (by omega)]
    obtain ⟨m, hm⟩ : ∃ m, 100 - v.length = m + 1 := ⟨100 - v.length - 1, by omega⟩
    rw [hm, List.take_succ_cons, ← qB_6, ← qB_6]
    exact qB_cong _ _ _ (fun j => qLen_space v _ op j) 6
  · rw [List.take_append_of_le_length h]

/- At a part of a text. -/
theorem qRun_pre (k : Nat) : ∀ (l : Bs) (m : Nat), qRun k l ≤ m → qRun k (l.take m) = qRun k l
  | [], m, _ => by simp
  | b :: t, 0, h => by
    simp only [qRun] at h ⊢
    split at h
    · omega
    · rename_i hc; simp [qRun, hc]
  | b :: t, m + 1, h => by
    simp only [List.take_succ_cons, qRun] at h ⊢
    split
    · rename_i hc
      rw [if_pos hc] at h
      rw [qRun_pre k t m (by omega)]
    · rfl

theorem qGo_end : ∀ (l : Bs) (i size : Nat) (letter : Bool), qGo l i size letter = size ∨ i < qGo l i size letter
  | [], _, _, _ => .inl rfl
  | b :: t, i, size, letter => by
    rw [qGo_cons]
    split
    · exact .inl rfl
    · rename_i s' l' hs
      have h1 := (qStep_some hs).1
      rcases qGo_end t (i + 1) s' l' with h | h
      · rw [h]
        rcases h1 with h1 | h1
        · exact .inl h1
        · exact .inr (by omega)
      · exact .inr (by omega)

theorem qGo_pre : ∀ (l : Bs) (m i size : Nat) (letter : Bool), size ≤ i → qGo l i size letter ≤ i + m → qGo (l.take m) i size letter = qGo l i size letter
  | [], m, i, size, letter, _, _ => by simp
  | b :: t, 0, i, size, letter, hs, h => by
    rcases qGo_end (b :: t) i size letter with h' | h'
    · rw [h']; rfl
    · omega
  | b :: t, m + 1, i, size, letter, hs, h => by
    simp only [List.take_succ_cons, qGo_cons] at h ⊢
    split
    · rfl
    · rename_i s' l' hst
      rw [hst] at h
      simp only at h
      have h1 := (qStep_some hst).1
      exact qGo_pre t m (i + 1) s' l' (by omega) (by omega)

theorem qPlain_pre (l : Bs) (m : Nat) (h : qPlain l ≤ m) : qPlain (l.take m) = qPlain l := qGo_pre l m 0 0 false (by omega) (by unfold qPlain at h; omega)

theorem qGo_last : ∀ (l : Bs) (i size : Nat) (letter : Bool), size ≤ i → i < qGo l i size letter → ∃ a, l[qGo l i size letter - 1 - i]? = some a ∧ cWord a.toNat = true
  | [], i, size, letter, hs, h => by simp only [qGo] at h; omega
  | b :: t, i, size, letter, hs, h => by
    rw [qGo_cons] at h ⊢
    split at h
    · omega
    · rename_i s' l' hst
      have h1 := qStep_some hst
      rcases qGo_end t (i + 1) s' l' with h2 | h2
      · have : s' = i + 1 := by omega
        exact ⟨b, by rw [h2, show s' - 1 - i = 0 by omega]; rfl, h1.2⟩
      · obtain ⟨a, ha, hw⟩ := qGo_last t (i + 1) s' l' (by omega) h2
        refine ⟨a, ?_, hw⟩
        rw [show qGo t (i + 1) s' l' - 1 - i = (qGo t (i + 1) s' l' - 1 - (i + 1)) + 1 by omega]
        exact ha

theorem plain_last (l : Bs) (m : Nat) (h : 0 < qPlain (l.take m)) : ∃ a, l[qPlain (l.take m) - 1]? = some a ∧ cWord a.toNat = true := by
  obtain ⟨a, ha, hw⟩ := qGo_last (l.take m) 0 0 false (by omega) h
  refine ⟨a, ?_, hw⟩
  rw [List.getElem?_take] at ha
  split at ha
  · exact ha
  · cases ha

theorem get_pre (l : Bs) (m n : Nat) (h : n < m) : (l.take m)[n]? = l[n]? := by rw [List.getElem?_take, if_pos h]

theorem qName_le_take (l : Bs) (m : Nat) : qName (l.take m) ≤ qName l := by
  have hp := qPlain_take l m
  have hn := qName_plain l
  rw [qName_eq (l.take m)]
  by_cases hc : qualB (l.take m) (qPlain (l.take m)) = true
  · rw [if_pos hc]
    have hlen := qualB_len hc
    simp only [List.length_take] at hlen
    obtain ⟨c1, c2, c3⟩ := qualB_inv hc
    have hs := qPlain_same l m _ 64 (by omega) c2 (by decide)
    generalize qPlain (l.take m) = k at *
    have hq : qualB l k = true := by unfold qualB; rw [← get_pre l m k (by omega), ← get_pre l m (k + 1) (by omega)]; exact hc
    rw [qName_eq, hs, if_pos hq]
    have hr : qRun 5 ((l.take m).drop (k + 2)) ≤ qRun 5 (l.drop (k + 2)) := by rw [drop_take_comm]; exact qRun_take _ _ _
    omega
  · rw [if_neg hc]
    omega

theorem qName_pre (l : Bs) (m : Nat) (h : qName l ≤ m) : qName l ≤ qName (l.take m) := by
  rw [qName_eq l] at h ⊢
  by_cases hc : qualB l (qPlain l) = true
  · rw [if_pos hc] at h ⊢
    have hp := qPlain_pre l m (by omega)
    have hq : qualB (l.take m) (qPlain l) = true := by unfold qualB; rw [get_pre l m _ (by omega), get_pre l m _ (by omega)]; exact hc
    rw [qName_eq, hp, if_pos hq, drop_take_comm, qRun_pre 5 _ _ (by omega)]
    exact Nat.le_refl _
  · rw [if_neg hc] at h ⊢
    have hp := qPlain_pre l m h
    have := qName_plain (l.take m)
    omega

theorem head_take' (l : Bs) (m : Nat) : (l.take m).head? = l.head? ∨ m = 0 := by
  cases m with
  | zero => exact .inr rfl
  | succ m => exact .inl (head_take l (m + 1) (by omega))

theorem qInt_le_take (l : Bs) (m : Nat) (op : Bool) : qInt (l.take m) op ≤ qInt l op := by
  rcases head_take' l m with hh | rfl
  · unfold qInt
    rw [hh]
    by_cases h : (l.head? == some 45 && !op) = true
    · simp only [h, if_true]
      have : qRun 1 ((l.take m).drop 1) ≤ qRun 1 (l.drop 1) := by rw [drop_take_comm]; exact qRun_take _ _ _
      split
      · rw [if_pos (by omega)]; omega
      · omega
    · simp only [h, if_false, Bool.false_eq_true, List.drop_zero]
      have := qRun_take 1 l m
      split
      · rw [if_pos (by omega)]; omega
      · omega
  · cases op <;> simp [qInt, qRun]

theorem qInt_pre (l : Bs) (m : Nat) (op : Bool) (h : qInt l op ≤ m) : qInt l op ≤ qInt (l.take m) op := by
  rcases head_take' l m with hh | rfl
  · unfold qInt at h ⊢
    rw [hh]
    by_cases hc : (l.head? == some 45 && !op) = true
    · simp only [hc, if_true] at h ⊢
      by_cases h0 : 0 < qRun 1 (l.drop 1)
      · rw [if_pos h0] at h ⊢
        have : qRun 1 ((l.take m).drop 1) = qRun 1 (l.drop 1) := by rw [drop_take_comm]; exact qRun_pre 1 _ _ (by omega)
        rw [this, if_pos h0]
        exact Nat.le_refl _
      · rw [if_neg h0]; omega
    · simp only [hc, if_false, Bool.false_eq_true, List.drop_zero] at h ⊢
      by_cases h0 : 0 < qRun 1 l
      · rw [if_pos h0] at h ⊢
        rw [qRun_pre 1 l m (by omega), if_pos h0]
        exact Nat.le_refl _
      · rw [if_neg h0]; omega
  · omega

theorem qColon_pre (l : Bs) (m : Nat) (h : qColon l = true) (hm : 0 < m) : qColon (l.take m) = true := by
  match l, m, hm with
  | [], m, _ => simpa using h
  | a :: t, 1, _ =>
    unfold qColon at h ⊢
    simp only [Bool.and_eq_true] at h
    simpa using h.1.1
  | a :: b :: t, m + 2, _ => simpa [qColon] using h
  | [a], m + 2, _ => simpa using h

theorem qKey_pre (l : Bs) (m : Nat) (h : qKey l ≤ m) : qKey l ≤ qKey (l.take m) := by
  unfold qKey at h ⊢
  simp only at h ⊢
  split at h
  · rename_i hc
    simp only [Bool.and_eq_true, decide_eq_true_eq] at hc
    rw [if_pos (by simp [hc.1, hc.2])]
    rw [qPlain_pre l m (by omega), drop_take_comm, qColon_pre _ _ hc.2 (by omega)]
    simp [hc.1]
  · rename_i hc
    rw [if_neg hc]; omega

/-- A keyword in a part of a text is one in the whole, but for a colon at the end. -/
theorem qKey_le_take (l : Bs) (m : Nat) (hc : ∀ c, l[m - 1]? = some 58 → l[m]? = some c → 2 ≤ m → (∃ a, l[m - 2]? = some a ∧ cWord a.toNat = true) → (c == 58 || c == 61) = false) : qKey (l.take m) ≤ qKey l := by
  by_cases hk : qKey (l.take m) = 0
  · omega
  · unfold qKey at hk ⊢
    simp only at hk ⊢
    split at hk
    · rename_i hq
      rw [if_pos hq]
      simp only [Bool.and_eq_true, decide_eq_true_eq] at hq
      obtain ⟨h0, hq⟩ := hq
      have hlen := qColon_len _ hq
      simp only [List.length_drop, List.length_take] at hlen
      have hcol : (l.take m)[qPlain (l.take m)]? = some 58 := by
        have h2 := hq
        unfold qColon at h2
        simp only [Bool.and_eq_true] at h2
        have := h2.1.1
        rw [List.head?_eq_getElem?, List.getElem?_drop] at this
        simpa using this
      have hs := qPlain_same l m _ 58 (by omega) hcol (by decide)
      rw [hs]
      have hfull : qColon (l.drop (qPlain (l.take m))) = true := by
        rw [drop_take_comm] at hq
        rcases Nat.lt_or_ge (qPlain (l.take m) + 1) m with h' | h'
        · exact qColon_grow _ _ hq (by omega)
        · have hm : m = qPlain (l.take m) + 1 := by omega
          rw [get_pre l m _ (by omega)] at hcol
          have hc' : ∀ c, l[m]? = some c → (c == 58 || c == 61) = false := by
            intro c hcc
            refine hc c (by rw [show m - 1 = qPlain (l.take m) by omega]; exact hcol) hcc (by omega) ?_
            have hw := plain_last l m h0
            rw [show m - 2 = qPlain (l.take m) - 1 by omega]
            exact hw
          unfold qColon
          rw [List.head?_eq_getElem?, List.getElem?_drop, List.getElem?_drop, Nat.add_zero, hcol, ← hm]
          cases hcc : l[m]? with
          | none => simp
          | some c =>
            have := hc' c hcc
            simp only [Bool.or_eq_false_iff] at this
            simp [this.1, this.2]
      rw [if_pos (by simp [h0, hfull])]
      exact Nat.le_refl _
    · exact absurd rfl hk
end Go.Proofs.YtopbmndjnjnmcaaGreatDoor

namespace Go.Proofs.YtopbmndjnjnmcaaGreatDoor
open Go.RowKit Lx

theorem qHash_le_take (l : Bs) (m : Nat) : qHash (l.take m) ≤ qHash l := by
  match l, m with
  | [], m => simp
  | a :: t, 0 => simp [qHash]
  | a :: t, 1 => simp [qHash]
  | [a], m + 2 => simp
  | a :: b :: t, m + 2 => simp [qHash]

theorem qHash_pre (l : Bs) (m : Nat) (h : qHash l ≤ m) : qHash l ≤ qHash (l.take m) := by
  by_cases h0 : qHash l = 0
  · omega
  · have h2 : qHash l = 2 := by
      unfold qHash at h0 ⊢; split
      · rfl
      · rename_i hc; rw [if_neg hc] at h0; exact absurd rfl h0
    obtain ⟨m', rfl⟩ : ∃ m', m = m' + 2 := ⟨m - 2, by omega⟩
    unfold qHash
    rw [List.take_take, Nat.min_eq_left (by omega)]
    exact Nat.le_refl _

theorem qSign_le_take (l : Bs) (m : Nat) : qSign (l.take m) ≤ qSign l := by
  match l, m with
  | [], m => simp
  | a :: t, 0 => simp [qSign, qTwo]
  | a :: t, 1 =>
    unfold qSign
    rw [if_neg (by simp [qTwo])]
    simp only [List.take_succ_cons, List.take_zero, List.head?_cons]
    split <;> split <;> omega
  | [a], m + 2 => simp
  | a :: b :: t, m + 2 => simp [qSign]

theorem qSign_pre (l : Bs) (m : Nat) (h : qSign l ≤ m) : qSign l ≤ qSign (l.take m) := by
  match l, m with
  | [], m => simp
  | a :: t, 0 => omega
  | a :: t, 1 =>
    unfold qSign at h ⊢
    split at h
    · omega
    · rename_i hc
      rw [if_neg hc, if_neg (by simp [qTwo])]
      simp
  | [a], m + 2 => simp
  | a :: b :: t, m + 2 => simp [qSign]

theorem qPat_le_take (l : Bs) (m : Nat) : qPat (l.take m) ≤ qPat l := by
  by_cases hm : m = 0
  · subst hm; simp [qPat]
  · have hle := qPat_le (l.take m)
    simp only [List.length_take] at hle
    by_cases hh : ((l.take m).head? == some 63) = true
    · have hh' := hh
      rw [head_take l m (by omega)] at hh'
      by_cases h0 : qPlain ((l.take m).drop 1) = 0
      · rw [qPat_1 _ hh h0]; omega
      · obtain ⟨k, hk⟩ : ∃ k, qPlain ((l.take m).drop 1) = k := ⟨_, rfl⟩
        have hk0 : 0 < k := by omega
        have h1 : k ≤ qPlain (l.drop 1) := by rw [← hk, drop_take_comm]; exact qPlain_take _ _
        have h2 := qPat_plain l hh' (by omega)
        cases hq : qColon ((l.take m).drop (k + 1))
        · rw [qPat_2 _ hh k hk hk0 hq]; omega
        · obtain ⟨j, hj⟩ : ∃ j, qPlain ((l.take m).drop (k + 2)) = j := ⟨_, rfl⟩
          rw [qPat_3 _ hh k hk hk0 hq j hj] at hle ⊢
          by_cases hj0 : 0 < j
          · rw [if_pos hj0] at hle ⊢
            have hcol : ((l.take m).drop (k + 1))[0]? = some 58 := by
              unfold qColon at hq
              simp only [Bool.and_eq_true] at hq
              have := hq.1.1
              rw [List.head?_eq_getElem?] at this
              simpa using this
            have hsame : qPlain (l.drop 1) = k := by
              rw [← hk, drop_take_comm]
              rw [drop_take_comm] at hcol
              refine qPlain_same (l.drop 1) (m - 1) k 58 (by omega) ?_ (by decide)
              rw [List.getElem?_take, if_pos (by omega), List.getElem?_drop]
              rw [List.getElem?_take, if_pos (by omega), List.getElem?_drop] at hcol
              rw [← hcol]; congr 1; omega
            have hq' : qColon (l.drop (k + 1)) = true := by
              rw [drop_take_comm] at hq
              exact qColon_grow _ _ hq (by omega)
            obtain ⟨j', hj'⟩ : ∃ j', qPlain (l.drop (k + 2)) = j' := ⟨_, rfl⟩
            have hjj : j ≤ j' := by rw [← hj, ← hj', drop_take_comm]; exact qPlain_take _ _
            rw [qPat_3 l hh' k hsame hk0 hq' j' hj', if_pos (by omega)]
            omega
          · rw [if_neg hj0]; omega
    · rw [qPat_0 _ (by simpa using hh)]; omega

theorem qPat_pre (l : Bs) (m : Nat) (h : qPat l ≤ m) : qPat l ≤ qPat (l.take m) := by
  by_cases hp0 : qPat l = 0
  · omega
  · by_cases hh : (l.head? == some 63) = true
    · have hh' := hh
      rw [← head_take l m (by omega)] at hh'
      by_cases h0 : qPlain (l.drop 1) = 0
      · rw [qPat_1 _ hh h0]; omega
      · obtain ⟨k, hk⟩ : ∃ k, qPlain (l.drop 1) = k := ⟨_, rfl⟩
        have hk0 : 0 < k := by omega
        have h2 := qPat_plain l hh (by omega)
        have hk' : qPlain ((l.take m).drop 1) = k := by rw [drop_take_comm, qPlain_pre _ _ (by omega), hk]
        have h3 := qPat_plain (l.take m) hh' (by omega)
        cases hq : qColon (l.drop (k + 1))
        · rw [qPat_2 _ hh k hk hk0 hq]; omega
        · obtain ⟨j, hj⟩ : ∃ j, qPlain (l.drop (k + 2)) = j := ⟨_, rfl⟩
          rw [qPat_3 _ hh k hk hk0 hq j hj] at h ⊢
          by_cases hj0 : 0 < j
          · rw [if_pos hj0] at h ⊢
            have hq' : qColon ((l.take m).drop (k + 1)) = true := by rw [drop_take_comm]; exact qColon_pre _ _ hq (by omega)
            have hj' : qPlain ((l.take m).drop (k + 2)) = j := by rw [drop_take_comm, qPlain_pre _ _ (by omega), hj]
            rw [qPat_3 _ hh' k hk' hk0 hq' j hj', if_pos hj0]
            exact Nat.le_refl _
          · rw [if_neg hj0]; omega
    · rw [qPat_0 _ (by simpa using hh)]; omega

/-- If no rule takes more, and those that take the most take as much, the longest match is the same. -/
theorem longest_same {l l' : Bs} {op : Bool} {k n : Nat} (hf : qLongest l op = (k, n)) (hle : ∀ j, j < 6 → qLen l' op j ≤ qLen l op j) (hge : ∀ j, j < 6 → qLen l op j = n → n ≤ qLen l' op j) : qLongest l' op = (k, n) := by
  have hmax : ∀ j, j < 6 → qLen l op j ≤ n := fun j hj => by
    have := qB_max l op 6 j hj
    rw [qB_6, hf] at this; exact this
  have key : ∀ i, i ≤ 6 → (qB l' op i).2 ≤ (qB l op i).2 ∧ ((qB l op i).2 = n → qB l' op i = qB l op i) ∧ (qB l op i).2 ≤ n := by
    intro i
    induction i with
    | zero => intro _; exact ⟨Nat.le_refl _, fun _ => rfl, by simp [qB]⟩
    | succ i ih =>
      intro hi
      obtain ⟨h1, h2, h3⟩ := ih (by omega)
      have a1 := hle i (by omega)
      have a2 := hge i (by omega)
      have a3 := hmax i (by omega)
      simp only [qB, qBetter]
      by_cases hS : (qB l op i).2 = n
      · have he := h2 hS
        rw [he, if_neg (by omega), if_neg (by omega)]
        exact ⟨Nat.le_refl _, fun _ => rfl, h3⟩
      · by_cases hfn : qLen l op i = n
        · have hg := a2 hfn
          rw [if_pos (by omega), if_pos (by omega)]
          have : qLen l' op i = qLen l op i := by omega
          rw [this]
          exact ⟨Nat.le_refl _, fun _ => rfl, by simp only; omega⟩
        · split <;> split <;> refine ⟨?_, fun h => ?_, ?_⟩ <;> first | omega | (simp only at *; omega)
  have := key 6 (Nat.le_refl _)
  rw [qB_6, qB_6, hf] at this
  exact this.2.1 rfl

/-- What a colon at the end of a part asks of what is behind it. -/
def ColonOk (l : Bs) (m : Nat) : Prop := ∀ c, l[m - 1]? = some 58 → l[m]? = some c → 2 ≤ m → (∃ a, l[m - 2]? = some a ∧ cWord a.toNat = true) → (c == 58 || c == 61) = false

theorem longest_pre {l : Bs} {m : Nat} {op : Bool} {k n : Nat} (hf : qLongest l op = (k, n)) (hm : n ≤ m) (hc : ColonOk l m) : qLongest (l.take m) op = (k, n) := by
  refine longest_same hf ?_ ?_
  · intro j hj
    have : j = 0 ∨ j = 1 ∨ j = 2 ∨ j = 3 ∨ j = 4 ∨ j = 5 := by omega
    rcases this with rfl | rfl | rfl | rfl | rfl | rfl
    · exact qName_le_take l m
    · exact qInt_le_take l m op
    · exact qKey_le_take l m hc
    · exact qHash_le_take l m
    · exact qSign_le_take l m
    · exact qPat_le_take l m
  · intro j hj he
    refine Nat.le_trans (Nat.le_of_eq he.symm) ?_
    have hle : qLen l op j ≤ m := by omega
    have : j = 0 ∨ j = 1 ∨ j = 2 ∨ j = 3 ∨ j = 4 ∨ j = 5 := by omega
    rcases this with rfl | rfl | rfl | rfl | rfl | rfl
    · exact qName_pre l m hle
    · exact qInt_pre l m op hle
    · exact qKey_pre l m hle
    · exact qHash_pre l m hle
    · exact qSign_pre l m hle
    · exact qPat_pre l m hle

/- The last byte of a piece. -/
theorem index_at : ∀ (l : Bs) (c : UInt8), (0 : Int) ≤ Lib.indexByte l c → l[(Lib.indexByte l c).toNat]? = some c
  | [], c, h => by simp [Lib.indexByte] at h
  | b :: t, c, h => by
    simp only [Lib.indexByte] at h ⊢
    cases hc : (b == c)
    · rw [hc] at h
      simp only [Bool.false_eq_true, if_false] at h ⊢
      cases hn : (Lib.indexByte t c == -1)
      · rw [hn] at h
        simp only [Bool.false_eq_true, if_false] at h ⊢
        have hge := Lib.indexByte_ge t c
        simp only [beq_eq_false_iff_ne] at hn
        have := index_at t c (by omega)
        rw [show (Lib.indexByte t c + 1).toNat = (Lib.indexByte t c).toNat + 1 by omega]
        exact this
      · rw [hn] at h; simp at h
    · simp only [beq_iff_eq] at hc
      subst hc; simp

theorem blank_comment (l : Bs) (h : 0 < qRun 7 l) : qComment l = (0, 0) := by
  match l, h with
  | [], h => simp [qRun] at h
  | b :: t, h =>
    have hb : qCls 7 b.toNat = true := by
      rw [qRun] at h
      split at h
      · assumption
      · omega
    have hne : ∀ c, ((b :: t).take 2 == [47, c]) = false := by
      intro c
      cases hcc : ((b :: t).take 2 == [47, c]) with
      | false => rfl
      | true =>
        exfalso
        cases t with
        | nil => simp at hcc
        | cons y z =>
          simp at hcc
          rw [hcc.1] at hb
          exact absurd hb (by decide)
    exact qC_none _ (hne 47) (hne 42)
end Go.Proofs.YtopbmndjnjnmcaaGreatDoor

namespace Go.Proofs.YtopbmndjnjnmcaaGreatDoor
open Go.RowKit Lx

theorem comment_kind {l : Bs} {i : Nat} {op : Bool} (h0 : (qNext l i op).er = 0) :
    (qComment (l.drop i)).1 = 0 ∧ ((0 < (qComment (l.drop i)).2 ∧ qNext l i op = ⟨0, 8, (qComment (l.drop i)).2⟩) ∨
      ((qComment (l.drop i)).2 = 0 ∧ 0 < qRun 7 (l.drop i) ∧ qNext l i op = ⟨0, 7, qRun 7 (l.drop i)⟩) ∨
      ((qComment (l.drop i)).2 = 0 ∧ qRun 7 (l.drop i) = 0 ∧ qNext l i op = ⟨0, (qLongest ((l.drop i).take 100) op).1, (qLongest ((l.drop i).take 100) op).2⟩ ∧ qCheck l i (qLongest ((l.drop i).take 100) op).1 (qLongest ((l.drop i).take 100) op).2 = 0)) := by
  by_cases c0 : (qComment (l.drop i)).1 = 0
  · refine ⟨c0, ?_⟩
    by_cases hp : 0 < (qComment (l.drop i)).2
    · exact .inl ⟨hp, qNext_a op c0 hp⟩
    · by_cases hb : 0 < qRun 7 (l.drop i)
      · exact .inr (.inl ⟨by omega, hb, qNext_b op c0 hp hb⟩)
      · have he := qNext_c op c0 hp hb
        by_cases hc : qCheck l i (qLongest ((l.drop i).take 100) op).1 (qLongest ((l.drop i).take 100) op).2 = 0
        · rw [if_neg (by simpa using hc)] at he
          exact .inr (.inr ⟨by omega, by omega, he, hc⟩)
        · rw [if_pos hc] at he
          rw [he] at h0; exact absurd h0 hc
  · exfalso; unfold qNext at h0; rw [if_pos c0] at h0; exact c0 h0

/-- A text into which something is put that begins with a space. -/
structure Put (l l' : Bs) (a : Nat) : Prop where
  le : a ≤ l.length
  pre : l'.take a = l.take a
  sp : ∃ r, l'.drop a = 32 :: r
  colon : ∀ c, l[a - 1]? = some 58 → l[a]? = some c → 2 ≤ a → (∃ b, l[a - 2]? = some b ∧ cWord b.toNat = true) → (c == 58 || c == 61) = false

theorem Put.drop {l l' : Bs} {a : Nat} (h : Put l l' a) (i : Nat) (hi : i ≤ a) : ∃ r, l'.drop i = (l.drop i).take (a - i) ++ 32 :: r := by
  obtain ⟨r, hr⟩ := h.sp
  refine ⟨r, ?_⟩
  have e : l' = l.take a ++ 32 :: r := by rw [← List.take_append_drop a l', h.pre, hr]
  rw [e, List.drop_append_of_le_length (by rw [List.length_take]; have := h.le; omega), List.drop_take]

theorem Put.get {l l' : Bs} {a : Nat} (h : Put l l' a) (n : Nat) (hn : n < a) : l'[n]? = l[n]? := get_of_take h.pre hn
theorem Put.at_ {l l' : Bs} {a : Nat} (h : Put l l' a) : l'[a]? = some 32 := by
  obtain ⟨r, hr⟩ := h.sp
  have := congrArg (fun x : Bs => x[0]?) hr
  simpa using this

theorem Put.check {l l' : Bs} {a i k n : Nat} (h : Put l l' a) (hi : i < a) (hn : i + n ≤ a) (hc : qCheck l i k n = 0) : qCheck l' i k n = 0 := by
  have hq : ∀ c, qCls c 32 = false → qAt c l' (i + n) = true → qAt c l (i + n) = true := by
    intro c hc hx
    unfold qAt at hx ⊢
    rcases Nat.lt_or_ge (i + n) a with h' | h'
    · rwa [h.get _ h'] at hx
    · rw [show i + n = a by omega, h.at_] at hx
      exact absurd hx (by show ¬ qCls c 32 = true; simp [hc])
  have ht : (l'.drop i).take n = (l.drop i).take n := by
    have := take_of_take (drop_take_eq i h.pre) (show n ≤ a - i by omega)
    exact this
  unfold qCheck at hc ⊢
  rw [ht, h.get i hi]
  split at hc
  · cases hc
  · rename_i h1
    split at hc
    · cases hc
    · rename_i h2
      rw [if_neg, if_neg]
      · exact hc
      · intro hx; apply h2
        simp only [Bool.and_eq_true, Bool.or_eq_true] at hx ⊢
        exact ⟨hx.1, hx.2.imp id (hq 2 (by decide))⟩
      · intro hx; apply h1
        simp only [Bool.and_eq_true, Bool.or_eq_true] at hx ⊢
        exact ⟨hx.1, hx.2.imp (hq 6 (by decide)) id⟩

theorem take2_space {v r : Bs} (a b : UInt8) (ha : a ≠ 32) (hb : b ≠ 32) (h : (v.take 2 == [a, b]) = false) : ((v ++ 32 :: r).take 2 == [a, b]) = false := by
  match v with
  | [] => simp; intro e; exact absurd e.symm ha
  | [x] => simp; intro _ e; exact hb e.symm
  | x :: y :: t => simpa using h

/-- A token ahead of the place is the same. -/
theorem Put.tok {l l' : Bs} {a i : Nat} {op : Bool} (h : Put l l' a) (h0 : (qNext l i op).er = 0) (hk : (qNext l i op).kind < 7) (hn : i + (qNext l i op).len ≤ a) (h1 : 1 ≤ (qNext l i op).len) : qNext l' i op = qNext l i op := by
  obtain ⟨c0, ⟨hp, he⟩ | ⟨hp, hb, he⟩ | ⟨hp, hb, he, hck⟩⟩ := comment_kind h0
  · rw [he] at hk; simp at hk
  · rw [he] at hk; simp at hk
  · rw [he] at hn h1
    simp only at hn h1
    obtain ⟨r, hr⟩ := h.drop i (by omega)
    obtain ⟨x, t, hx⟩ : ∃ x t, (l.drop i).take (a - i) = x :: t := by
      cases hv : (l.drop i).take (a - i) with
      | nil =>
        exfalso
        have := congrArg List.length hv
        have hle := h.le
        simp only [List.length_take, List.length_drop, List.length_nil] at this
        omega
      | cons x t => exact ⟨x, t, rfl⟩
    have hhead : (l.drop i)[0]? = some x := by
      have := congrArg (fun y : Bs => y[0]?) hx
      simpa [List.getElem?_take, show 0 < a - i by omega] using this
    have hcm : qComment (l.drop i) = (0, 0) := Prod.ext c0 hp
    have hc' : qComment (l'.drop i) = (0, 0) := by
      have hne : ∀ b, b = 47 ∨ b = 42 → ((l.drop i).take 2 == [47, b]) = false := by
        intro b hb2
        cases hcc : ((l.drop i).take 2 == [47, b]) with
        | false => rfl
        | true =>
          exfalso
          rcases hb2 with rfl | rfl
          · unfold qComment at hcm
            rw [if_pos hcc] at hcm
            simp only [Prod.mk.injEq, true_and] at hcm
            match hd : l.drop i, hcc with
            | [], hcc => simp at hcc
            | [y], hcc => simp at hcc
            | y :: z :: w, hcc =>
              rw [hd] at hcm
              simp at hcc
              obtain ⟨rfl, rfl⟩ := hcc
              split at hcm
              · rename_i hge
                have := index_at _ 10 hge
                rw [hcm] at this
                simp at this
              · simp at hcm
          · unfold qComment at hcm
            rw [if_neg (by
              intro h3
              simp only [beq_iff_eq] at h3 hcc
              rw [h3] at hcc; simp at hcc), if_pos hcc] at hcm
            have h3 : (qNestGo (l.drop i) 0 0) = (0, 0) := hcm
            have := nest_ge (l.drop i) 0 0 (by rw [h3])
            rw [h3] at this; simp at this
      have hv : ∀ b, b = 47 ∨ b = 42 → (((l.drop i).take (a - i)).take 2 == [47, b]) = false := by
        intro b hb2
        rw [List.take_take]
        rcases Nat.lt_or_ge (a - i) 2 with h2 | h2
        · rw [Nat.min_eq_right (by omega), show a - i = 1 by omega]
          cases l.drop i <;> simp
        · rw [Nat.min_eq_left h2]; exact hne b hb2
      rw [hr]
      exact qC_none _ (take2_space 47 47 (by decide) (by decide) (hv 47 (.inl rfl))) (take2_space 47 42 (by decide) (by decide) (hv 42 (.inr rfl)))
    have hb' : qRun 7 (l'.drop i) = 0 := by
      rw [hr, hx, List.cons_append, qRun, if_neg]
      intro hq
      cases hd : l.drop i with
      | nil => rw [hd] at hhead; simp at hhead
      | cons y z =>
        rw [hd] at hhead hb
        simp at hhead; subst hhead
        rw [qRun, if_pos hq] at hb; omega
    have hlong : qLongest ((l'.drop i).take 100) op = qLongest ((l.drop i).take 100) op := by
      rw [hr, longest_space, List.take_take, Nat.min_comm, ← List.take_take]
      obtain ⟨K, N, hKN⟩ : ∃ K N, qLongest ((l.drop i).take 100) op = (K, N) := ⟨_, _, rfl⟩
      rw [hKN] at hn h1 ⊢
      simp only at hn h1
      refine longest_pre hKN (by omega) ?_
      intro c g1 g2 g3 g4
      rcases Nat.lt_or_ge (a - i) 100 with h2 | h2
      · rw [get_pre _ _ _ (by omega), List.getElem?_drop] at g1 g2
        refine h.colon c (by rw [← g1]; congr 1; omega) (by rw [← g2]; congr 1; omega) (by omega) ?_
        obtain ⟨b, g5, g6⟩ := g4
        rw [get_pre _ _ _ (by omega), List.getElem?_drop] at g5
        exact ⟨b, by rw [← g5]; congr 1; omega, g6⟩
      · rw [List.getElem?_eq_none (by rw [List.length_take]; omega)] at g2; cases g2
    rw [he, qNext_c op (by rw [hc']) (by rw [hc']; simp) (by omega), hlong, h.check (by omega) hn hck, if_neg (by simp)]

/-- A comment ahead of the place is the same, unless it goes to the end of its line there. -/
theorem Put.comment {l l' : Bs} {a i : Nat} {op : Bool} (h : Put l l' a) (h0 : (qNext l i op).er = 0) (hk : (qNext l i op).kind = 8) (hn : i + (qNext l i op).len ≤ a) (hl : i + (qNext l i op).len = a → l[i + 1]? ≠ some 47) : qNext l' i op = qNext l i op := by
  obtain ⟨c0, ⟨hp, he⟩ | ⟨hp, hb, he⟩ | ⟨hp, hb, he, hck⟩⟩ := comment_kind h0
  · rw [he] at hn hl
    simp only at hn hl
    have hle := h.le
    have hM := drop_take_eq i h.pre
    have hlen2 : 2 ≤ a - i := by
      unfold qComment at c0 hp hn
      split at hn
      · rename_i ht
        rw [if_pos ht] at hp
        simp only at hn hp
        match hd : l.drop i, ht with
        | [], ht => simp at ht
        | [y], ht => simp at ht
        | y :: z :: w, ht =>
          have hll := congrArg List.length hd
          simp only [List.length_drop, List.length_cons] at hll
          rw [hd] at hn hp
          simp at ht
          obtain ⟨rfl, rfl⟩ := ht
          split at hn
          · rename_i hge
            rcases Nat.lt_or_ge (a - i) 2 with h2 | h2
            · exfalso
              have hx := index_at _ 10 hge
              have : (Lib.indexByte (47 :: 47 :: w) 10).toNat = 1 := by rw [if_pos hge] at hp; omega
              rw [this] at hx; simp at hx
            · exact h2
          · simp only [List.length_cons] at hn; omega
      · rename_i ht
        split at hn
        · rename_i ht2
          rw [if_neg ht, if_pos ht2] at c0
          have := nest_ge (l.drop i) 0 0 c0
          have hn' : i + (qNestGo (l.drop i) 0 0).2 ≤ a := hn
          omega
        · rename_i ht2
          rw [if_neg ht, if_neg ht2] at hp
          simp at hp
    have hc : qComment (l'.drop i) = qComment (l.drop i) := by
      have ht := take_of_take hM hlen2
      unfold qComment at c0 hn hl ⊢
      rw [ht]
      split
      · rename_i hcc
        rw [if_pos hcc] at hn hl
        simp only at hn hl
        have h47 : l[i + 1]? = some 47 := by
          have : (l.drop i)[1]? = some 47 := by
            match hd : l.drop i, hcc with
            | [], hcc => simp at hcc
            | [y], hcc => simp at hcc
            | y :: z :: w, hcc => simp at hcc; simp [hcc]
          rwa [List.getElem?_drop] at this
        split at hn
        · rename_i hge
          rw [if_pos hge] at hl
          have hlt : i + (Lib.indexByte (l.drop i) 10).toNat ≠ a := fun e => hl e h47
          rw [indexByte_agree 10 (l.drop i) (l'.drop i) (a - i) hM.symm hge (by omega)]
          simp only [hge, if_true]
        · rename_i hge
          rw [if_neg hge] at hl
          exfalso
          rw [List.length_drop] at hn hl
          exact hl (by omega) h47
      · rename_i h1
        split
        · rename_i h2
          rw [if_neg h1, if_pos h2] at c0 hn
          exact nest_agree (l.drop i) 0 0 (l'.drop i) (a - i) hM.symm c0 (by have : i + (qNestGo (l.drop i) 0 0).2 ≤ a := hn; omega)
        · rfl
    rw [he, qNext_a op (by rw [hc]; exact c0) (by rw [hc]; exact hp), hc]
  · rw [he] at hk; simp at hk
  · obtain ⟨_, h6⟩ := qLongest_le ((l.drop i).take 100) op
    rw [he] at hk; simp only at hk; omega

/-- Blanks ahead of the place are the same, unless they end there. -/
theorem Put.blank {l l' : Bs} {a i : Nat} {op : Bool} (h : Put l l' a) (h0 : (qNext l i op).er = 0) (hk : (qNext l i op).kind = 7) (hn : i + (qNext l i op).len < a) : qNext l' i op = qNext l i op := by
  obtain ⟨c0, ⟨hp, he⟩ | ⟨hp, hb, he⟩ | ⟨hp, hb, he, hck⟩⟩ := comment_kind h0
  · rw [he] at hk; simp at hk
  · rw [he] at hn
    simp only at hn
    have hM := drop_take_eq i h.pre
    have hq := qRun_agree 7 (l.drop i) (l'.drop i) (a - i) hM.symm (by omega)
    have hc := blank_comment (l'.drop i) (by omega)
    rw [he, qNext_b op (by rw [hc]) (by rw [hc]; simp) (by omega), hq]
  · obtain ⟨_, h6⟩ := qLongest_le ((l.drop i).take 100) op
    rw [he] at hk; simp only at hk; omega
end Go.Proofs.YtopbmndjnjnmcaaGreatDoor

namespace Go.Proofs.YtopbmndjnjnmcaaGreatDoor
open Go.RowKit Lx

/- The comment that is put. -/
end Go.Proofs.YtopbmndjnjnmcaaGreatDoor

namespace Go.Proofs.YtopbmndjnjnmcaaGreatDoor
open Go.RowKit Lx

end Go.Proofs.YtopbmndjnjnmcaaGreatDoor

namespace Go.Proofs.YtopbmndjnjnmcaaGreatDoor
open Go.RowKit Lx

/-- Whether a byte is of a class: a letter that names one, or the byte itself. -/
def rMem (c n : Nat) : Bool :=
  if c = 76 then cSmall n else if c = 68 then cDigit n else if c = 87 then cWord n else if c = 70 then cFin n else if c = 66 then cFront n else if c = 81 then cPart n
  else if c = 65 then (cSmall n || cDigit n) else n == c
/-- Whether the byte at an index is of a class. -/
def rIn (s : Bs) (c i : Nat) : Bool := match s[i]? with | some b => rMem c b.toNat | none => false

/-- What a part of a pattern takes, with what the parts ahead take. -/
def rNext (s : Bs) (c : Nat) (star : Bool) (f : Nat → Bool) : Nat → Bool
  | 0 => star && f 0
  | i + 1 => if star then f (i + 1) || (rNext s c star f i && rIn s c i) else f i && rIn s c i

abbrev Item := Nat × Bool
def rSet (s : Bs) : List Item → (Nat → Bool) → Nat → Bool
  | [], f => f
  | x :: p, f => rSet s p (rNext s x.1 x.2 f)
/-- The greatest number above 0, up to n, at which f is true. -/
def rLast (f : Nat → Bool) : Nat → Nat
  | 0 => 0
  | n + 1 => if f (n + 1) then n + 1 else rLast f n

theorem rLast_le (f : Nat → Bool) : ∀ n, rLast f n ≤ n
  | 0 => Nat.le_refl _
  | n + 1 => by
    have := rLast_le f n
    simp only [rLast]; split <;> omega
theorem rLast_is (f : Nat → Bool) : ∀ n, rLast f n = 0 ∨ f (rLast f n) = true
  | 0 => .inl rfl
  | n + 1 => by
    simp only [rLast]; split
    · rename_i h; exact .inr h
    · exact rLast_is f n
theorem rLast_max (f : Nat → Bool) : ∀ n i, i ≤ n → f i = true → i ≤ rLast f n
  | 0, i, h, _ => by omega
  | n + 1, i, h, hf => by
    simp only [rLast]; split
    · omega
    · rename_i hn
      have : i ≠ n + 1 := fun e => by subst e; exact hn hf
      exact rLast_max f n i (by omega) hf
/-- A pattern takes the bytes from i to j. -/
def Tk (s : Bs) : List Item → Nat → Nat → Prop
  | [], i, j => i = j
  | (c, false) :: p, i, j => rIn s c i = true ∧ Tk s p (i + 1) j
  | (c, true) :: p, i, j => ∃ m, i ≤ m ∧ (∀ k, i ≤ k → k < m → rIn s c k = true) ∧ Tk s p m j

theorem rNext_one (s : Bs) (c : Nat) (f : Nat → Bool) (j : Nat) : rNext s c false f j = true ↔ ∃ i, f i = true ∧ rIn s c i = true ∧ i + 1 = j := by
  cases j with
  | zero => simp [rNext]
  | succ j =>
    simp only [rNext, Bool.false_eq_true, if_false, Bool.and_eq_true]
    constructor
    · rintro ⟨h1, h2⟩; exact ⟨j, h1, h2, rfl⟩
    · rintro ⟨i, h1, h2, h3⟩; obtain rfl : i = j := by omega
      exact ⟨h1, h2⟩
theorem rNext_star (s : Bs) (c : Nat) (f : Nat → Bool) (j : Nat) : rNext s c true f j = true ↔ ∃ i, f i = true ∧ i ≤ j ∧ ∀ k, i ≤ k → k < j → rIn s c k = true := by
  induction j with
  | zero =>
    simp only [rNext, Bool.true_and]
    constructor
    · intro h; exact ⟨0, h, Nat.le_refl _, fun k _ hk => by omega⟩
    · rintro ⟨i, h, hi, _⟩; obtain rfl : i = 0 := by omega
      exact h
  | succ j ih =>
    simp only [rNext, if_true, Bool.or_eq_true, Bool.and_eq_true]
    constructor
    · rintro (h | ⟨h1, h2⟩)
      · exact ⟨j + 1, h, Nat.le_refl _, fun k h1 h2 => by omega⟩
      · obtain ⟨i, h3, h4, h5⟩ := ih.1 h1
        refine ⟨i, h3, by omega, fun k h6 h7 => ?_⟩
        by_cases hk : k = j
        · subst hk; exact h2
        · exact h5 k h6 (by omega)
    · rintro ⟨i, h1, h2, h3⟩
      by_cases hi : i = j + 1
      · subst hi; exact .inl h1
      · exact .inr ⟨ih.2 ⟨i, h1, by omega, fun k h4 h5 => h3 k h4 (by omega)⟩, h3 j (by omega) (by omega)⟩

theorem rSet_iff (s : Bs) : ∀ (p : List Item) (f : Nat → Bool) (j : Nat), rSet s p f j = true ↔ ∃ i, f i = true ∧ Tk s p i j
  | [], f, j => by
    constructor
    · intro h; exact ⟨j, h, rfl⟩
    · rintro ⟨i, h, rfl⟩; exact h
  | (c, false) :: p, f, j => by
    simp only [rSet]
    rw [rSet_iff s p]
    constructor
    · rintro ⟨m, h1, h2⟩
      obtain ⟨i, h3, h4, rfl⟩ := (rNext_one s c f m).1 h1
      exact ⟨i, h3, h4, h2⟩
    · rintro ⟨i, h1, h2, h3⟩
      exact ⟨i + 1, (rNext_one s c f _).2 ⟨i, h1, h2, rfl⟩, h3⟩
  | (c, true) :: p, f, j => by
    simp only [rSet]
    rw [rSet_iff s p]
    constructor
    · rintro ⟨m, h1, h2⟩
      obtain ⟨i, h3, h4, h5⟩ := (rNext_star s c f m).1 h1
      exact ⟨i, h3, m, h4, h5, h2⟩
    · rintro ⟨i, h1, m, h2, h3, h4⟩
      exact ⟨m, (rNext_star s c f m).2 ⟨i, h1, h2, h3⟩, h4⟩

theorem Tk_app (s : Bs) : ∀ (p q : List Item) (i j : Nat), Tk s (p ++ q) i j ↔ ∃ m, Tk s p i m ∧ Tk s q m j
  | [], q, i, j => by
    constructor
    · intro h; exact ⟨i, rfl, h⟩
    · rintro ⟨m, h, h2⟩; cases h; exact h2
  | (c, false) :: p, q, i, j => by
    simp only [List.cons_append, Tk]
    rw [Tk_app s p q]
    constructor
    · rintro ⟨h1, m, h2, h3⟩; exact ⟨m, ⟨h1, h2⟩, h3⟩
    · rintro ⟨m, ⟨h1, h2⟩, h3⟩; exact ⟨h1, m, h2, h3⟩
  | (c, true) :: p, q, i, j => by
    simp only [List.cons_append, Tk]
    constructor
    · rintro ⟨m, h1, h2, h3⟩
      obtain ⟨m2, h4, h5⟩ := (Tk_app s p q m j).1 h3
      exact ⟨m2, ⟨m, h1, h2, h4⟩, h5⟩
    · rintro ⟨m2, ⟨m, h1, h2, h4⟩, h5⟩
      exact ⟨m, h1, h2, (Tk_app s p q m j).2 ⟨m2, h4, h5⟩⟩

theorem Tk_le {s : Bs} : ∀ {p : List Item} {i j : Nat}, Tk s p i j → i ≤ j
  | [], i, j, h => by cases h; exact Nat.le_refl _
  | (c, false) :: p, i, j, h => by have := Tk_le h.2; omega
  | (c, true) :: p, i, j, ⟨m, h1, _, h3⟩ => by have := Tk_le h3; omega

/-- What a pattern takes at most. -/
def rLong (p : List Item) (s : Bs) : Nat := rLast (rSet s p (fun i => i == 0)) s.length
theorem rLong_iff (p : List Item) (s : Bs) (j : Nat) : rSet s p (fun i => i == 0) j = true ↔ Tk s p 0 j := by
  rw [rSet_iff]
  constructor
  · rintro ⟨i, h, h2⟩
    simp only [beq_iff_eq] at h
    subst h; exact h2
  · intro h; exact ⟨0, rfl, h⟩

/-- A plain name: from the first byte on n bytes. -/
structure Nm (l : Bs) (i j : Nat) : Prop where
  lt : i < j
  front : rIn l 76 i = true ∨ rIn l 66 i = true
  word : ∀ k, i ≤ k → k < j → rIn l 87 k = true
  fin : rIn l 70 (j - 1) = true
  letter : ∃ k, i ≤ k ∧ k < j ∧ rIn l 76 k = true

theorem rIn_some {l : Bs} {c i : Nat} (h : rIn l c i = true) : ∃ b, l[i]? = some b ∧ rMem c b.toNat = true := by
  unfold rIn at h
  split at h
  · rename_i b hb; exact ⟨b, hb, h⟩
  · cases h
theorem rIn_of {l : Bs} {c i : Nat} {b : UInt8} (hb : l[i]? = some b) (h : rMem c b.toNat = true) : rIn l c i = true := by unfold rIn; rw [hb]; exact h
theorem small_fin {l : Bs} {i : Nat} (h : rIn l 76 i = true) : rIn l 70 i = true := by
  obtain ⟨b, hb, hm⟩ := rIn_some h
  exact rIn_of hb (by have : cSmall b.toNat = true := hm; show cFin b.toNat = true; unfold cFin; rw [this]; rfl)
theorem fin_word {l : Bs} {i : Nat} (h : rIn l 70 i = true) : rIn l 87 i = true := by
  obtain ⟨b, hb, hm⟩ := rIn_some h
  exact rIn_of hb (by have : cFin b.toNat = true := hm; show cWord b.toNat = true; unfold cWord; rw [this]; rfl)
theorem front_word {l : Bs} {i : Nat} (h : rIn l 66 i = true) : rIn l 87 i = true := by
  obtain ⟨b, hb, hm⟩ := rIn_some h
  refine rIn_of hb ?_
  have h2 : cFront b.toNat = true := hm
  show cWord b.toNat = true
  unfold cFront at h2
  simp only [List.contains_cons, List.contains_nil, Bool.or_false, Bool.or_eq_true, beq_iff_eq] at h2
  rcases h2 with h | h | h | h | h <;> (rw [h]; decide)

def pP1 : List Item := [(76, false)]
def pP2 : List Item := [(76, false), (87, true), (70, false)]
def pP3 : List Item := [(66, false), (87, true), (76, false)]
def pP4 : List Item := [(66, false), (87, true), (76, false), (87, true), (70, false)]
/-- The patterns of plain names. -/
def rPlain : List (List Item) := [pP1, pP2, pP3, pP4]

theorem plain_iff (l : Bs) (i j : Nat) : (∃ p, p ∈ rPlain ∧ Tk l p i j) ↔ Nm l i j := by
  constructor
  · rintro ⟨p, hp, h⟩
    simp only [rPlain, List.mem_cons, List.not_mem_nil, or_false] at hp
    rcases hp with rfl | rfl | rfl | rfl
    · obtain ⟨h1, h2⟩ := h
      have h2 : i + 1 = j := h2
      subst h2
      exact ⟨by omega, .inl h1, fun k a b => by obtain rfl : k = i := by omega
                                                exact fin_word (small_fin h1), by rw [show i + 1 - 1 = i by omega]; exact small_fin h1, i, by omega, by omega, h1⟩
    · obtain ⟨h1, m, h2, h3, h4, h5⟩ := h
      have h5 : m + 1 = j := h5
      subst h5
      refine ⟨by omega, .inl h1, fun k a b => ?_, by rw [show m + 1 - 1 = m by omega]; exact h4, i, by omega, by omega, h1⟩
      by_cases hk : k = i
      · subst hk; exact fin_word (small_fin h1)
      · by_cases hm : k = m
        · subst hm; exact fin_word h4
        · exact h3 k (by omega) (by omega)
    · obtain ⟨h1, m, h2, h3, h4, h5⟩ := h
      have h5 : m + 1 = j := h5
      subst h5
      refine ⟨by omega, .inr h1, fun k a b => ?_, by rw [show m + 1 - 1 = m by omega]; exact small_fin h4, m, by omega, by omega, h4⟩
      by_cases hk : k = i
      · subst hk; exact front_word h1
      · by_cases hm : k = m
        · subst hm; exact fin_word (small_fin h4)
        · exact h3 k (by omega) (by omega)
    · obtain ⟨h1, m, h2, h3, h4, m2, h5, h6, h7, h8⟩ := h
      have h8 : m2 + 1 = j := h8
      subst h8
      refine ⟨by omega, .inr h1, fun k a b => ?_, by rw [show m2 + 1 - 1 = m2 by omega]; exact h7, m, by omega, by omega, h4⟩
      by_cases hk : k = i
      · subst hk; exact front_word h1
      · by_cases hm : k = m
        · subst hm; exact fin_word (small_fin h4)
        · by_cases hm2 : k = m2
          · subst hm2; exact fin_word h7
          · by_cases hlt : k < m
            · exact h3 k (by omega) hlt
            · exact h6 k (by omega) (by omega)
  · rintro ⟨hlt, hfront, hword, hfin, k, hk1, hk2, hk3⟩
    rcases hfront with hf | hf
    · by_cases hj : j = i + 1
      · subst hj; exact ⟨pP1, by simp [rPlain], hf, rfl⟩
      · refine ⟨pP2, by simp [rPlain], hf, j - 1, by omega, fun k a b => hword k (by omega) (by omega), hfin, ?_⟩
        show j - 1 + 1 = j
        omega
    · have hki : k ≠ i := by
        rintro rfl
        obtain ⟨b, hb, hm⟩ := rIn_some hf
        obtain ⟨b', hb', hm'⟩ := rIn_some hk3
        rw [hb] at hb'; cases hb'
        have h1 : cFront b.toNat = true := hm
        have h2 : cSmall b.toNat = true := hm'
        unfold cFront at h1
        simp only [List.contains_cons, List.contains_nil, Bool.or_false, Bool.or_eq_true, beq_iff_eq] at h1
        rcases h1 with h | h | h | h | h <;> (rw [h] at h2; exact absurd h2 (by decide))
      by_cases hkj : k = j - 1
      · refine ⟨pP3, by simp [rPlain], hf, k, by omega, fun q a b => hword q (by omega) (by omega), hk3, ?_⟩
        show k + 1 = j
        omega
      · refine ⟨pP4, by simp [rPlain], hf, k, by omega, fun q a b => hword q (by omega) (by omega), hk3, j - 1, by omega, fun q a b => hword q (by omega) (by omega), hfin, ?_⟩
        show j - 1 + 1 = j
        omega

/- plain, by its loop. -/
/-- What the loop finds behind index i. -/
structure Nx (l : Bs) (letter : Bool) (n : Nat) : Prop where
  pos : 0 < n
  word : ∀ k, k < n → rIn l 87 k = true
  fin : rIn l 70 (n - 1) = true
  letter : letter = true ∨ ∃ k, k < n ∧ rIn l 76 k = true

theorem rIn_cons (b : UInt8) (t : Bs) (c k : Nat) : rIn (b :: t) c (k + 1) = rIn t c k := rfl
theorem rIn_zero (b : UInt8) (t : Bs) (c : Nat) : rIn (b :: t) c 0 = rMem c b.toNat := rfl

theorem Nx_one {b : UInt8} {t : Bs} {letter : Bool} : Nx (b :: t) letter 1 ↔ cWord b.toNat = true ∧ cFin b.toNat = true ∧ (letter || cSmall b.toNat) = true := by
  constructor
  · rintro ⟨_, h1, h2, h3⟩
    refine ⟨h1 0 (by omega), h2, ?_⟩
    rcases h3 with h | ⟨k, hk, h⟩
    · rw [h]; rfl
    · obtain rfl : k = 0 := by omega
      rw [rIn_zero] at h
      have h : cSmall b.toNat = true := h
      rw [h]; simp
  · rintro ⟨h1, h2, h3⟩
    refine ⟨by omega, fun k hk => by obtain rfl : k = 0 := by omega
                                     exact h1, h2, ?_⟩
    simp only [Bool.or_eq_true] at h3
    exact h3.imp id fun h => ⟨0, by omega, h⟩
theorem Nx_more {b : UInt8} {t : Bs} {letter : Bool} {n : Nat} (hn : 0 < n) : Nx (b :: t) letter (n + 1) ↔ cWord b.toNat = true ∧ Nx t (letter || cSmall b.toNat) n := by
  constructor
  · rintro ⟨_, h1, h2, h3⟩
    refine ⟨h1 0 (by omega), hn, fun k hk => h1 (k + 1) (by omega), ?_, ?_⟩
    · rw [show n + 1 - 1 = (n - 1) + 1 by omega, rIn_cons] at h2; exact h2
    · rcases h3 with h | ⟨k, hk, h⟩
      · exact .inl (by rw [h]; rfl)
      · cases k with
        | zero => exact .inl (by rw [rIn_zero] at h; have h : cSmall b.toNat = true := h; rw [h]; simp)
        | succ k => exact .inr ⟨k, by omega, h⟩
  · rintro ⟨h0, _, h1, h2, h3⟩
    refine ⟨by omega, fun k hk => ?_, ?_, ?_⟩
    · cases k with
      | zero => exact h0
      | succ k => exact h1 k (by omega)
    · rw [show n + 1 - 1 = (n - 1) + 1 by omega, rIn_cons]; exact h2
    · rcases h3 with h | ⟨k, hk, h⟩
      · simp only [Bool.or_eq_true] at h
        exact h.imp id fun h => ⟨0, by omega, h⟩
      · exact .inr ⟨k + 1, by omega, h⟩

theorem qGo_nx : ∀ (l : Bs) (i size : Nat) (letter : Bool), 0 < i → size ≤ i →
    (qGo l i size letter = size ∧ ∀ n, ¬ Nx l letter n) ∨ (∃ n, qGo l i size letter = i + n ∧ Nx l letter n ∧ ∀ m, Nx l letter m → m ≤ n)
  | [], i, size, letter, _, _ => by
    left
    refine ⟨rfl, ?_⟩
    rintro n ⟨h0, h1, _, _⟩
    have := h1 0 h0
    simp [rIn] at this
  | b :: t, i, size, letter, hi, hs => by
    rw [qGo_cons]
    have hst : qStep b i size letter = if cWord b.toNat = true then some (if ((letter || cSmall b.toNat) && cFin b.toNat) = true then i + 1 else size, letter || cSmall b.toNat) else none := by
      unfold qStep
      have : (i == 0) = false := by simp; omega
      rw [this]
      cases cWord b.toNat <;> simp
    rw [hst]
    by_cases hw : cWord b.toNat = true
    · rw [if_pos hw]
      simp only
      have hle : (if ((letter || cSmall b.toNat) && cFin b.toNat) = true then i + 1 else size) ≤ i + 1 := by split <;> omega
      rcases qGo_nx t (i + 1) _ (letter || cSmall b.toNat) (by omega) hle with ⟨h1, h2⟩ | ⟨n, h1, h2, h3⟩
      · rw [h1]
        by_cases hc : ((letter || cSmall b.toNat) && cFin b.toNat) = true
        · right
          rw [if_pos hc]
          simp only [Bool.and_eq_true] at hc
          refine ⟨1, rfl, Nx_one.2 ⟨hw, hc.2, hc.1⟩, fun m hm => ?_⟩
          rcases Nat.lt_or_ge 1 m with h | h
          · obtain ⟨m', rfl⟩ : ∃ m', m = m' + 1 := ⟨m - 1, by omega⟩
            exact absurd ((Nx_more (by omega)).1 hm).2 (h2 m')
          · exact h
        · left
          rw [if_neg hc]
          refine ⟨rfl, fun m hm => ?_⟩
          rcases Nat.lt_or_ge 1 m with h | h
          · obtain ⟨m', rfl⟩ : ∃ m', m = m' + 1 := ⟨m - 1, by omega⟩
            exact absurd ((Nx_more (by omega)).1 hm).2 (h2 m')
          · obtain rfl : m = 1 := by have := hm.pos; omega
            obtain ⟨_, g2, g3⟩ := Nx_one.1 hm
            apply hc; rw [g2, g3]; rfl
      · right
        refine ⟨n + 1, by omega, (Nx_more h2.pos).2 ⟨hw, h2⟩, fun m hm => ?_⟩
        rcases Nat.lt_or_ge 1 m with h | h
        · obtain ⟨m', rfl⟩ : ∃ m', m = m' + 1 := ⟨m - 1, by omega⟩
          have := h3 m' ((Nx_more (by omega)).1 hm).2
          omega
        · have := h2.pos; omega
    · rw [if_neg hw]
      left
      refine ⟨rfl, fun m hm => ?_⟩
      exact hw (hm.word 0 hm.pos)

theorem Nm_nx {b : UInt8} {t : Bs} {n : Nat} : Nm (b :: t) 0 n ↔ (cSmall b.toNat = true ∨ cFront b.toNat = true) ∧ Nx (b :: t) false n := by
  constructor
  · rintro ⟨h1, h2, h3, h4, k, _, h6, h7⟩
    exact ⟨h2, h1, fun k hk => h3 k (by omega) hk, h4, .inr ⟨k, h6, h7⟩⟩
  · rintro ⟨h0, h1, h2, h3, h4⟩
    refine ⟨h1, h0, fun k _ hk => h2 k hk, h3, ?_⟩
    rcases h4 with h | ⟨k, hk, h⟩
    · cases h
    · exact ⟨k, by omega, hk, h⟩

/-- **plain is the longest plain name.** -/
theorem qPlain_nm (l : Bs) : (qPlain l = 0 ∧ ∀ n, ¬ Nm l 0 n) ∨ (Nm l 0 (qPlain l) ∧ ∀ m, Nm l 0 m → m ≤ qPlain l) := by
  match l with
  | [] =>
    left
    refine ⟨rfl, fun n h => ?_⟩
    rcases h.front with h | h <;> simp [rIn] at h
  | b :: t =>
    have hst : qStep b 0 0 false = if (cSmall b.toNat || cFront b.toNat) = true then some (if (cSmall b.toNat && cFin b.toNat) = true then 1 else 0, cSmall b.toNat) else none := by
      unfold qStep
      have hsw : cSmall b.toNat = true → cWord b.toNat = true := fun h => by unfold cWord cFin; rw [h]; rfl
      have hfw : cFront b.toNat = true → cWord b.toNat = true := fun h => front_word (l := [b]) (i := 0) h
      cases h1 : cSmall b.toNat
      · cases h2 : cFront b.toNat
        · simp
        · rw [hfw h2]; simp
      · rw [hsw h1]; simp
    unfold qPlain
    rw [qGo_cons, hst]
    by_cases hc : (cSmall b.toNat || cFront b.toNat) = true
    · rw [if_pos hc]
      simp only
      have hc' := hc
      simp only [Bool.or_eq_true] at hc'
      have hw : cWord b.toNat = true := by
        rcases hc' with h | h
        · unfold cWord cFin; rw [h]; rfl
        · exact front_word (l := [b]) (i := 0) h
      have hle : (if (cSmall b.toNat && cFin b.toNat) = true then 1 else 0) ≤ 1 := by split <;> omega
      rcases qGo_nx t 1 _ (cSmall b.toNat) (by omega) hle with ⟨h1, h2⟩ | ⟨n, h1, h2, h3⟩
      · rw [h1]
        by_cases hf : (cSmall b.toNat && cFin b.toNat) = true
        · right
          rw [if_pos hf]
          simp only [Bool.and_eq_true] at hf
          refine ⟨Nm_nx.2 ⟨hc', Nx_one.2 ⟨hw, hf.2, by rw [hf.1]; rfl⟩⟩, fun m hm => ?_⟩
          have hm := (Nm_nx.1 hm).2
          rcases Nat.lt_or_ge 1 m with h | h
          · obtain ⟨m', rfl⟩ : ∃ m', m = m' + 1 := ⟨m - 1, by omega⟩
            exact absurd ((Nx_more (by omega)).1 hm).2 (by rw [Bool.false_or]; exact h2 m')
          · exact h
        · left
          rw [if_neg hf]
          refine ⟨rfl, fun m hm => ?_⟩
          have hm := (Nm_nx.1 hm).2
          rcases Nat.lt_or_ge 1 m with h | h
          · obtain ⟨m', rfl⟩ : ∃ m', m = m' + 1 := ⟨m - 1, by omega⟩
            exact absurd ((Nx_more (by omega)).1 hm).2 (by rw [Bool.false_or]; exact h2 m')
          · obtain rfl : m = 1 := by have := hm.pos; omega
            obtain ⟨_, g2, g3⟩ := Nx_one.1 hm
            apply hf; rw [Bool.false_or] at g3; rw [g2, g3]; rfl
      · right
        rw [h1]
        refine ⟨Nm_nx.2 ⟨hc', by rw [Nat.add_comm]; exact (Nx_more h2.pos).2 ⟨hw, by rw [Bool.false_or]; exact h2⟩⟩, fun m hm => ?_⟩
        have hm := (Nm_nx.1 hm).2
        rcases Nat.lt_or_ge 1 m with h | h
        · obtain ⟨m', rfl⟩ : ∃ m', m = m' + 1 := ⟨m - 1, by omega⟩
          have := h3 m' (by have := ((Nx_more (by omega)).1 hm).2; rwa [Bool.false_or] at this)
          omega
        · omega
    · rw [if_neg hc]
      left
      refine ⟨rfl, fun m hm => ?_⟩
      have := (Nm_nx.1 hm).1
      apply hc
      simpa using this
end Go.Proofs.YtopbmndjnjnmcaaGreatDoor

namespace Go.Proofs.YtopbmndjnjnmcaaGreatDoor
open Go.RowKit Lx

/-- The parts of a pattern's text. -/
def rItems : Bs → List Item
  | [] => []
  | [c] => [(c.toNat, false)]
  | c :: d :: t => if d = 42 then (c.toNat, true) :: rItems t else (c.toNat, false) :: rItems (d :: t)

/-- The patterns of plain names, as texts. -/
def bP1 : Bs := [76]
def bP2 : Bs := [76, 87, 42, 70]
def bP3 : Bs := [66, 87, 42, 76]
def bP4 : Bs := [66, 87, 42, 76, 87, 42, 70]
def rPlainB : List Bs := [bP1, bP2, bP3, bP4]
def rRulesOf (p : Bs) : List (Nat × Bs) := [(1, p), (1, p ++ [64, 65, 81, 42]), (3, p ++ [58]), (6, 63 :: p)] ++ rPlainB.map fun q => (6, 63 :: p ++ 58 :: q)
/-- All rules but those of signs. -/
def rRules : List (Nat × Bs) := rPlainB.flatMap rRulesOf ++ [(2, [68, 68, 42]), (2, [45, 68, 68, 42]), (4, [35, 116]), (4, [35, 102])]
def rSigns : List Bs := [[40], [41], [91], [93], [123], [125], [44], [59], [46], [61], [60], [62], [43], [45], [42], [47], [38], [124], [126], [63], [58, 61], [58, 58], [61, 62], [61, 61], [60, 61], [62, 61]]

/-- Whether a byte that makes a colon another sign follows. -/
def rColon (s : Bs) (i : Nat) : Bool := s[i + 1]? == some 58 || s[i + 1]? == some 61
/-- The bytes at which the rules look. -/
def rBegin (s : Bs) (i : Nat) : Bs := (s.drop i).take 100
/-- What a rule takes. -/
def rLen (s : Bs) (i : Nat) (p : Bs) : Nat := rLong (rItems p) (rBegin s i)
def rAllowed (s : Bs) (i : Nat) (x : Nat × Bs) : Bool :=
  if rLen s i x.2 = 0 then false
  else if x.1 = 3 then !rColon s (i + rLen s i x.2 - 1)
  else if x.1 = 6 then decide (Lib.indexByte ((s.drop i).take (rLen s i x.2)) 58 < 0) || !rColon s (i + (Lib.indexByte ((s.drop i).take (rLen s i x.2)) 58).toNat)
  else true
/-- Whether a rule is passed over. -/
def rPass (s : Bs) (i : Nat) (op name : Bool) (x : Nat × Bs) : Bool := (name && x.1 != 1 && x.1 != 3) || (op && x.2.head? == some 45) || !rAllowed s i x
def rCand (s : Bs) (i : Nat) (op name : Bool) (x : Nat × Bs) : Nat := if rPass s i op name x = true then 0 else rLen s i x.2
def rUp (o : Nat × Nat) (k n : Nat) : Nat × Nat := if 0 < n ∧ (o.2 < n ∨ (n = o.2 ∧ k < o.1)) then (k, n) else o
def rName (s : Bs) (i : Nat) : Bool := rPlainB.any fun p => decide (0 < rLen s i p)
def rBest0 (s : Bs) (i : Nat) (op : Bool) : Nat × Nat := rRules.foldl (fun o x => rUp o x.1 (rCand s i op (rName s i) x)) (0, 0)
def rSign (s : Bs) (i : Nat) (o : Nat × Nat) (w : Bs) : Nat × Nat := if o.2 < w.length ∧ (s.drop i).take w.length = w then (5, w.length) else o
def rBest (s : Bs) (i : Nat) (op : Bool) : Nat × Nat := if rName s i = true then rBest0 s i op else rSigns.foldl (rSign s i) (rBest0 s i op)

/-- What the best so far is. -/
def UpInv (C : Nat × Bs → Nat) (l : List (Nat × Bs)) (o : Nat × Nat) : Prop :=
  (o = (0, 0) ∧ ∀ x ∈ l, C x = 0) ∨ (0 < o.2 ∧ (∃ x ∈ l, x.1 = o.1 ∧ C x = o.2) ∧ ∀ y ∈ l, C y ≤ o.2 ∧ (C y = o.2 → o.1 ≤ y.1))

theorem UpInv.step {C : Nat × Bs → Nat} {l : List (Nat × Bs)} {o : Nat × Nat} (h : UpInv C l o) (x : Nat × Bs) : UpInv C (l ++ [x]) (rUp o x.1 (C x)) := by
  unfold rUp
  rcases h with ⟨rfl, h⟩ | ⟨h0, ⟨z, hz, hz1, hz2⟩, h⟩
  · split
    · rename_i hc
      right
      refine ⟨hc.1, ⟨x, by simp, rfl, rfl⟩, fun y hy => ?_⟩
      rw [List.mem_append, List.mem_singleton] at hy
      rcases hy with hy | rfl
      · have := h y hy; simp only; omega
      · exact ⟨Nat.le_refl _, fun _ => Nat.le_refl _⟩
    · rename_i hc
      left
      refine ⟨rfl, fun y hy => ?_⟩
      rw [List.mem_append, List.mem_singleton] at hy
      rcases hy with hy | rfl
      · exact h y hy
      · simp only at hc; omega
  · split
    · rename_i hc
      right
      refine ⟨hc.1, ⟨x, by simp, rfl, rfl⟩, fun y hy => ?_⟩
      rw [List.mem_append, List.mem_singleton] at hy
      rcases hy with hy | rfl
      · have := h y hy; simp only; omega
      · exact ⟨Nat.le_refl _, fun _ => Nat.le_refl _⟩
    · rename_i hc
      right
      refine ⟨h0, ⟨z, by simp [hz], hz1, hz2⟩, fun y hy => ?_⟩
      rw [List.mem_append, List.mem_singleton] at hy
      rcases hy with hy | rfl
      · exact h y hy
      · omega

theorem UpInv.fold {C : Nat × Bs → Nat} : ∀ (l pre : List (Nat × Bs)) (o : Nat × Nat), UpInv C pre o → UpInv C (pre ++ l) (l.foldl (fun o x => rUp o x.1 (C x)) o)
  | [], pre, o, h => by simpa using h
  | x :: t, pre, o, h => by
    have := UpInv.fold t (pre ++ [x]) _ (h.step x)
    simpa using this

theorem best_of {C : Nat × Bs → Nat} {l : List (Nat × Bs)} {k n : Nat} (hn : 0 < n) (hx : ∃ x ∈ l, x.1 = k ∧ C x = n) (h : ∀ y ∈ l, C y ≤ n ∧ (C y = n → k ≤ y.1)) : l.foldl (fun o x => rUp o x.1 (C x)) (0, 0) = (k, n) := by
  have hf := UpInv.fold (C := C) l [] (0, 0) (.inl ⟨rfl, by simp⟩)
  rw [List.nil_append] at hf
  obtain ⟨x, hx1, hx2, hx3⟩ := hx
  rcases hf with ⟨_, h2⟩ | ⟨h0, ⟨z, hz, hz1, hz2⟩, h2⟩
  · have := h2 x hx1; omega
  · have a1 := h2 x hx1
    have a2 := h z hz
    have a3 : C z = n := by omega
    have a4 := a2.2 a3
    have a5 := a1.2 (by omega)
    refine Prod.ext ?_ ?_
    · simp only; omega
    · simp only; omega

theorem best_none {C : Nat × Bs → Nat} {l : List (Nat × Bs)} (h : ∀ y ∈ l, C y = 0) : l.foldl (fun o x => rUp o x.1 (C x)) (0, 0) = (0, 0) := by
  have hf := UpInv.fold (C := C) l [] (0, 0) (.inl ⟨rfl, by simp⟩)
  rw [List.nil_append] at hf
  rcases hf with ⟨h1, _⟩ | ⟨h0, ⟨z, hz, hz1, hz2⟩, _⟩
  · exact h1
  · have := h z hz; omega

/- What each pattern takes. -/
theorem rLong_mem {p : List Item} {r : Bs} (h : 0 < rLong p r) : Tk r p 0 (rLong p r) := by
  rcases rLast_is (rSet r p fun i => i == 0) r.length with h1 | h1
  · unfold rLong at h; omega
  · exact (rLong_iff p r _).1 h1
theorem Tk_len {r : Bs} : ∀ {p : List Item} {i j : Nat}, Tk r p i j → i < j → j ≤ r.length
  | [], i, j, h, hlt => by cases h; omega
  | (c, false) :: p, i, j, h, hlt => by
    obtain ⟨b, hb, _⟩ := rIn_some h.1
    have hi := (List.getElem?_eq_some_iff.1 hb).1
    by_cases he : i + 1 < j
    · exact Tk_len h.2 he
    · have := Tk_le h.2; omega
  | (c, true) :: p, i, j, ⟨m, h1, h2, h3⟩, hlt => by
    by_cases he : m < j
    · exact Tk_len h3 he
    · have := Tk_le h3
      obtain ⟨b, hb, _⟩ := rIn_some (h2 (j - 1) (by omega) (by omega))
      have := (List.getElem?_eq_some_iff.1 hb).1
      omega
theorem rLong_ge {p : List Item} {r : Bs} {j : Nat} (h : Tk r p 0 j) : j ≤ rLong p r := by
  rcases Nat.eq_zero_or_pos j with h0 | h0
  · omega
  · exact rLast_max _ _ j (Tk_len h h0) ((rLong_iff p r j).2 h)
theorem rLong_le (p : List Item) (r : Bs) : rLong p r ≤ r.length := rLast_le _ _

theorem items_plain : rPlainB.map rItems = rPlain := by decide
theorem items_qual : ∀ p ∈ rPlainB, rItems (p ++ [64, 65, 81, 42]) = rItems p ++ [(64, false), (65, false), (81, true)] := by decide
theorem items_key : ∀ p ∈ rPlainB, rItems (p ++ [58]) = rItems p ++ [(58, false)] := by decide
theorem items_pat : ∀ p ∈ rPlainB, rItems (63 :: p) = (63, false) :: rItems p := by decide
theorem items_pat2 : ∀ p ∈ rPlainB, ∀ q ∈ rPlainB, rItems (63 :: p ++ 58 :: q) = (63, false) :: (rItems p ++ (58, false) :: rItems q) := by decide

theorem plainB_iff (l : Bs) (i j : Nat) : (∃ p ∈ rPlainB, Tk l (rItems p) i j) ↔ Nm l i j := by
  rw [← plain_iff, ← items_plain]
  constructor
  · rintro ⟨p, hp, h⟩; exact ⟨rItems p, List.mem_map_of_mem hp, h⟩
  · rintro ⟨q, hq, h⟩
    obtain ⟨p, hp, rfl⟩ := List.mem_map.1 hq
    exact ⟨p, hp, h⟩

theorem plain_bound {r : Bs} {p : Bs} (hp : p ∈ rPlainB) {j : Nat} (h : Tk r (rItems p) 0 j) : Nm r 0 j ∧ j ≤ qPlain r := by
  have hn := (plainB_iff r 0 j).1 ⟨p, hp, h⟩
  refine ⟨hn, ?_⟩
  rcases qPlain_nm r with ⟨_, h2⟩ | ⟨_, h2⟩
  · exact absurd hn (h2 j)
  · exact h2 j hn
theorem plain_top {r : Bs} (h : 0 < qPlain r) : Nm r 0 (qPlain r) := by
  rcases qPlain_nm r with ⟨h1, _⟩ | ⟨h1, _⟩
  · omega
  · exact h1
theorem plain_exact {r : Bs} (h : 0 < qPlain r) : ∃ p ∈ rPlainB, Tk r (rItems p) 0 (qPlain r) := (plainB_iff r 0 _).2 (plain_top h)
theorem plain_len {r : Bs} {p : Bs} (hp : p ∈ rPlainB) : rLong (rItems p) r ≤ qPlain r := by
  rcases Nat.eq_zero_or_pos (rLong (rItems p) r) with h | h
  · omega
  · exact (plain_bound hp (rLong_mem h)).2

theorem rName_iff (s : Bs) (i : Nat) : rName s i = decide (0 < qPlain (rBegin s i)) := by
  unfold rName
  rw [Bool.eq_iff_iff, List.any_eq_true, decide_eq_true_eq]
  constructor
  · rintro ⟨p, hp, h⟩
    simp only [decide_eq_true_eq] at h
    have := plain_len (r := rBegin s i) hp
    unfold rLen at h; omega
  · intro h
    obtain ⟨p, hp, ht⟩ := plain_exact h
    exact ⟨p, hp, by simp only [decide_eq_true_eq]; unfold rLen; have := rLong_ge ht; omega⟩

/-- A name that is followed by a byte of no name is the longest one. -/
theorem nm_stop {r : Bs} {m : Nat} (h : Nm r 0 m) {c : UInt8} (hc : r[m]? = some c) (hw : cWord c.toNat = false) : m = qPlain r := by
  rcases qPlain_nm r with ⟨_, h2⟩ | ⟨h1, h2⟩
  · exact absurd h (h2 m)
  · have := h2 m h
    by_cases he : m = qPlain r
    · exact he
    · exfalso
      obtain ⟨b, hb, hm⟩ := rIn_some (h1.word m (by omega) (by omega))
      rw [hc] at hb; cases hb
      have hm : cWord c.toNat = true := hm
      rw [hw] at hm; cases hm

theorem rIn_byte {r : Bs} {c i : Nat} (h : rIn r c i = true) (hc : c ≠ 76 ∧ c ≠ 68 ∧ c ≠ 87 ∧ c ≠ 70 ∧ c ≠ 66 ∧ c ≠ 81 ∧ c ≠ 65) : ∃ b, r[i]? = some b ∧ b.toNat = c := by
  obtain ⟨b, hb, hm⟩ := rIn_some h
  refine ⟨b, hb, ?_⟩
  unfold rMem at hm
  obtain ⟨h1, h2, h3, h4, h5, h6, h7⟩ := hc
  rw [if_neg h1, if_neg h2, if_neg h3, if_neg h4, if_neg h5, if_neg h6, if_neg h7] at hm
  simpa using hm
theorem byte_u8 {b : UInt8} {n : Nat} (h : b.toNat = n) (hn : n < 256) : b = UInt8.ofNat n := by
  apply UInt8.toNat_inj.1
  rw [h, UInt8.toNat_ofNat']; omega
theorem rIn_is {r : Bs} {i : Nat} {b : UInt8} (hb : r[i]? = some b) (c : Nat) (hc : b.toNat = c) (hn : c ≠ 76 ∧ c ≠ 68 ∧ c ≠ 87 ∧ c ≠ 70 ∧ c ≠ 66 ∧ c ≠ 81 ∧ c ≠ 65) : rIn r c i = true := by
  refine rIn_of hb ?_
  unfold rMem
  obtain ⟨h1, h2, h3, h4, h5, h6, h7⟩ := hn
  rw [if_neg h1, if_neg h2, if_neg h3, if_neg h4, if_neg h5, if_neg h6, if_neg h7]
  simp [hc]

theorem star_run (r : Bs) : ∀ (k m : Nat), (∀ q, m ≤ q → q < m + k → rIn r 81 q = true) → k ≤ qRun 5 (r.drop m)
  | 0, m, _ => Nat.zero_le _
  | k + 1, m, h => by
    obtain ⟨b, hb, hm⟩ := rIn_some (h m (by omega) (by omega))
    obtain ⟨hlt, hge⟩ := List.getElem?_eq_some_iff.1 hb
    have := star_run r k (m + 1) (fun q h1 h2 => h q (by omega) (by omega))
    rw [List.drop_eq_getElem_cons hlt, hge, qRun, if_pos (by exact hm)]
    omega
theorem run_star (r : Bs) : ∀ (k m : Nat), k ≤ qRun 5 (r.drop m) → ∀ q, m ≤ q → q < m + k → rIn r 81 q = true
  | 0, m, _, q, h1, h2 => by omega
  | k + 1, m, h, q, h1, h2 => by
    have hlt : m < r.length := by
      rcases Nat.lt_or_ge m r.length with h' | h'
      · exact h'
      · rw [List.drop_eq_nil_of_le h'] at h; simp [qRun] at h
    rw [List.drop_eq_getElem_cons hlt, qRun] at h
    split at h
    · rename_i hc
      by_cases hq : q = m
      · subst hq; exact rIn_of (List.getElem?_eq_getElem hlt) hc
      · exact run_star r k (m + 1) (by omega) q (by omega) (by omega)
    · omega

theorem qual_bound {r : Bs} {p : Bs} (hp : p ∈ rPlainB) {j : Nat} (h : Tk r (rItems (p ++ [64, 65, 81, 42])) 0 j) : qualB r (qPlain r) = true ∧ j ≤ qName r := by
  rw [items_qual p hp, Tk_app] at h
  obtain ⟨m, h1, h2, h3, e, h4, h5, h6⟩ := h
  have h6 : e = j := h6
  subst h6
  have hb := plain_bound hp h1
  obtain ⟨b, hb1, hb2⟩ := rIn_byte h2 (by decide)
  have hb3 : b = 64 := byte_u8 hb2 (by decide)
  subst hb3
  obtain rfl := nm_stop hb.1 hb1 (by decide)
  obtain ⟨b2, hc1, hc2⟩ := rIn_some h3
  have hq : qualB r (qPlain r) = true := by
    unfold qualB
    rw [hb1, hc1]
    have hc2 : (cSmall b2.toNat || cDigit b2.toNat) = true := hc2
    have := hb.1.lt
    simp [this, hc2]
  refine ⟨hq, ?_⟩
  rw [qName_eq, if_pos hq]
  have := star_run r (e - (qPlain r + 1 + 1)) (qPlain r + 1 + 1) (fun q g1 g2 => h5 q g1 (by omega))
  rw [show qPlain r + 1 + 1 = qPlain r + 2 from rfl] at this h4
  omega
theorem qual_exact {r : Bs} (hq : qualB r (qPlain r) = true) : ∃ p ∈ rPlainB, Tk r (rItems (p ++ [64, 65, 81, 42])) 0 (qName r) := by
  obtain ⟨c1, c2, c3⟩ := qualB_inv hq
  obtain ⟨p, hp, ht⟩ := plain_exact c1
  refine ⟨p, hp, ?_⟩
  rw [items_qual p hp, Tk_app]
  refine ⟨qPlain r, ht, rIn_is c2 64 rfl (by decide), ?_, ?_⟩
  · cases hb : r[qPlain r + 1]? with
    | none => rw [hb] at c3; simp at c3
    | some b => rw [hb] at c3; exact rIn_of hb c3
  · refine ⟨qName r, ?_, ?_, rfl⟩
    · rw [qName_eq, if_pos hq]; omega
    · intro k h1 h2
      rw [qName_eq, if_pos hq] at h2
      exact run_star r (qRun 5 (r.drop (qPlain r + 2))) (qPlain r + 2) (Nat.le_refl _) k h1 h2

theorem key_bound {r : Bs} {p : Bs} (hp : p ∈ rPlainB) {j : Nat} (h : Tk r (rItems (p ++ [58])) 0 j) : 0 < qPlain r ∧ r[qPlain r]? = some 58 ∧ j = qPlain r + 1 := by
  rw [items_key p hp, Tk_app] at h
  obtain ⟨m, h1, h2, h3⟩ := h
  have h3 : m + 1 = j := h3
  have hb := plain_bound hp h1
  obtain ⟨b, hb1, hb2⟩ := rIn_byte h2 (by decide)
  have hb3 : b = 58 := byte_u8 hb2 (by decide)
  subst hb3
  obtain rfl := nm_stop hb.1 hb1 (by decide)
  exact ⟨hb.1.lt, hb1, h3.symm⟩
theorem key_exact {r : Bs} (h0 : 0 < qPlain r) (h : r[qPlain r]? = some 58) : ∃ p ∈ rPlainB, Tk r (rItems (p ++ [58])) 0 (qPlain r + 1) := by
  obtain ⟨p, hp, ht⟩ := plain_exact h0
  refine ⟨p, hp, ?_⟩
  rw [items_key p hp, Tk_app]
  exact ⟨qPlain r, ht, rIn_is h 58 rfl (by decide), rfl⟩

theorem rIn_drop (r : Bs) (c m k : Nat) : rIn (r.drop m) c k = rIn r c (m + k) := by unfold rIn; rw [List.getElem?_drop]
theorem Tk_drop (r : Bs) : ∀ (p : List Item) (m i j : Nat), Tk (r.drop m) p i j ↔ Tk r p (m + i) (m + j)
  | [], m, i, j => by
    constructor
    · intro h; cases h; exact rfl
    · intro h
      have h : m + i = m + j := h
      show i = j
      omega
  | (c, false) :: p, m, i, j => by
    simp only [Tk]; rw [rIn_drop, Tk_drop r p m (i + 1) j]; rfl
  | (c, true) :: p, m, i, j => by
    simp only [Tk]
    constructor
    · rintro ⟨e, h1, h2, h3⟩
      refine ⟨m + e, by omega, fun k g1 g2 => ?_, (Tk_drop r p m e j).1 h3⟩
      have := h2 (k - m) (by omega) (by omega)
      rw [rIn_drop] at this
      rwa [show m + (k - m) = k by omega] at this
    · rintro ⟨e, h1, h2, h3⟩
      refine ⟨e - m, by omega, fun k g1 g2 => ?_, (Tk_drop r p m (e - m) j).2 (by rw [show m + (e - m) = e by omega]; exact h3)⟩
      rw [rIn_drop]; exact h2 (m + k) (by omega) (by omega)

theorem pat_bound {r : Bs} {p : Bs} (hp : p ∈ rPlainB) {j : Nat} (h : Tk r (rItems (63 :: p)) 0 j) : (r.head? == some 63) = true ∧ 0 < qPlain (r.drop 1) ∧ 1 < j ∧ j ≤ qPlain (r.drop 1) + 1 := by
  rw [items_pat p hp] at h
  obtain ⟨h1, h2⟩ := h
  obtain ⟨b, hb1, hb2⟩ := rIn_byte h1 (by decide)
  have hb3 : b = 63 := byte_u8 hb2 (by decide)
  subst hb3
  have hle := Tk_le h2
  have h3 := (Tk_drop r (rItems p) 1 0 (j - 1)).2 (by rw [show 1 + (j - 1) = j by omega]; exact h2)
  have hb := plain_bound hp h3
  have := hb.1.lt
  refine ⟨by rw [List.head?_eq_getElem?, hb1]; rfl, by omega, by omega, by omega⟩
theorem pat_exact {r : Bs} (hh : (r.head? == some 63) = true) (h0 : 0 < qPlain (r.drop 1)) : ∃ p ∈ rPlainB, Tk r (rItems (63 :: p)) 0 (qPlain (r.drop 1) + 1) := by
  obtain ⟨p, hp, ht⟩ := plain_exact h0
  refine ⟨p, hp, ?_⟩
  rw [items_pat p hp]
  refine ⟨rIn_is (by rw [← List.head?_eq_getElem?]; simpa using hh) 63 rfl (by decide), ?_⟩
  have := (Tk_drop r (rItems p) 1 0 _).1 ht
  rwa [Nat.add_comm 1 (qPlain _)] at this

theorem pat2_bound {r : Bs} {p q : Bs} (hp : p ∈ rPlainB) (hq : q ∈ rPlainB) {j : Nat} (h : Tk r (rItems (63 :: p ++ 58 :: q)) 0 j) :
    (r.head? == some 63) = true ∧ 0 < qPlain (r.drop 1) ∧ r[qPlain (r.drop 1) + 1]? = some 58 ∧ 0 < qPlain (r.drop (qPlain (r.drop 1) + 2)) ∧ qPlain (r.drop 1) + 2 < j ∧ j ≤ qPlain (r.drop 1) + 2 + qPlain (r.drop (qPlain (r.drop 1) + 2)) := by
  rw [items_pat2 p hp q hq] at h
  obtain ⟨h1, h2⟩ := h
  rw [Tk_app] at h2
  obtain ⟨m, h2, h3, h4⟩ := h2
  obtain ⟨b, hb1, hb2⟩ := rIn_byte h1 (by decide)
  have hb3 : b = 63 := byte_u8 hb2 (by decide)
  subst hb3
  have hle := Tk_le h2
  have h5 := (Tk_drop r (rItems p) 1 0 (m - 1)).2 (by rw [show 1 + (m - 1) = m by omega]; exact h2)
  have hb := plain_bound hp h5
  obtain ⟨c, hc1, hc2⟩ := rIn_byte h3 (by decide)
  have hc3 : c = 58 := byte_u8 hc2 (by decide)
  subst hc3
  have hst := nm_stop hb.1 (c := 58) (by rw [List.getElem?_drop, show 1 + (m - 1) = m by omega]; exact hc1) (by decide)
  have hm : m = qPlain (r.drop 1) + 1 := by omega
  subst hm
  have hle2 := Tk_le h4
  have h6 := (Tk_drop r (rItems q) (qPlain (r.drop 1) + 2) 0 (j - (qPlain (r.drop 1) + 2))).2 (by rw [show qPlain (r.drop 1) + 2 + (j - (qPlain (r.drop 1) + 2)) = j by omega]; exact h4)
  have hb2 := plain_bound hq h6
  have g1 := hb.1.lt
  have g2 := hb2.1.lt
  exact ⟨by rw [List.head?_eq_getElem?, hb1]; rfl, by omega, hc1, by omega, by omega, by omega⟩
theorem pat2_exact {r : Bs} (hh : (r.head? == some 63) = true) (h0 : 0 < qPlain (r.drop 1)) (h1 : r[qPlain (r.drop 1) + 1]? = some 58) (h2 : 0 < qPlain (r.drop (qPlain (r.drop 1) + 2))) :
    ∃ p ∈ rPlainB, ∃ q ∈ rPlainB, Tk r (rItems (63 :: p ++ 58 :: q)) 0 (qPlain (r.drop 1) + 2 + qPlain (r.drop (qPlain (r.drop 1) + 2))) := by
  obtain ⟨p, hp, ht⟩ := plain_exact h0
  obtain ⟨q, hq, hu⟩ := plain_exact h2
  refine ⟨p, hp, q, hq, ?_⟩
  rw [items_pat2 p hp q hq]
  refine ⟨rIn_is (by rw [← List.head?_eq_getElem?]; simpa using hh) 63 rfl (by decide), (Tk_app _ _ _ _ _).2 ⟨qPlain (r.drop 1) + 1, ?_, rIn_is h1 58 rfl (by decide), ?_⟩⟩
  · have := (Tk_drop r (rItems p) 1 0 _).1 ht
    rwa [Nat.add_comm 1 (qPlain _)] at this
  · exact (Tk_drop r (rItems q) (qPlain (r.drop 1) + 2) 0 _).1 hu
end Go.Proofs.YtopbmndjnjnmcaaGreatDoor

namespace Go.Proofs.YtopbmndjnjnmcaaGreatDoor
open Go.RowKit Lx

theorem rules_cases {y : Nat × Bs} (h : y ∈ rRules) : (∃ p ∈ rPlainB, y = (1, p)) ∨ (∃ p ∈ rPlainB, y = (1, p ++ [64, 65, 81, 42])) ∨ (∃ p ∈ rPlainB, y = (3, p ++ [58])) ∨ (∃ p ∈ rPlainB, y = (6, 63 :: p)) ∨
    (∃ p ∈ rPlainB, ∃ q ∈ rPlainB, y = (6, 63 :: p ++ 58 :: q)) ∨ y = (2, [68, 68, 42]) ∨ y = (2, [45, 68, 68, 42]) ∨ y = (4, [35, 116]) ∨ y = (4, [35, 102]) := by
  unfold rRules at h
  rw [List.mem_append, List.mem_flatMap] at h
  rcases h with ⟨p, hp, h⟩ | h
  · unfold rRulesOf at h
    rw [List.mem_append] at h
    rcases h with h | h
    · simp only [List.mem_cons, List.not_mem_nil, or_false] at h
      rcases h with rfl | rfl | rfl | rfl
      · exact .inl ⟨p, hp, rfl⟩
      · exact .inr (.inl ⟨p, hp, rfl⟩)
      · exact .inr (.inr (.inl ⟨p, hp, rfl⟩))
      · exact .inr (.inr (.inr (.inl ⟨p, hp, rfl⟩)))
    · obtain ⟨q, hq, rfl⟩ := List.mem_map.1 h
      exact .inr (.inr (.inr (.inr (.inl ⟨p, hp, q, hq, rfl⟩))))
  · simp only [List.mem_cons, List.not_mem_nil, or_false] at h
    rcases h with rfl | rfl | rfl | rfl <;> simp

theorem rules_mem {p : Bs} (hp : p ∈ rPlainB) {y : Nat × Bs} (hy : y ∈ rRulesOf p) : y ∈ rRules := by
  unfold rRules; rw [List.mem_append, List.mem_flatMap]; exact .inl ⟨p, hp, hy⟩
theorem rules_last {y : Nat × Bs} (hy : y ∈ [((2 : Nat), ([68, 68, 42] : Bs)), (2, [45, 68, 68, 42]), (4, [35, 116]), (4, [35, 102])]) : y ∈ rRules := by
  unfold rRules; rw [List.mem_append]; exact .inr hy

theorem head_plain : ∀ p ∈ rPlainB, (p.head? == some 45) = false ∧ ((p ++ [64, 65, 81, 42]).head? == some 45) = false ∧ ((p ++ [58]).head? == some 45) = false := by decide

theorem cand_le (s : Bs) (i : Nat) (op name : Bool) (x : Nat × Bs) : rCand s i op name x ≤ rLen s i x.2 := by
  unfold rCand; split <;> omega

/-- Where a name begins. -/
theorem best_name (l : Bs) (i : Nat) (op : Bool) (h : 0 < qPlain (rBegin l i)) :
    rBest l i op = if (rBegin l i)[qPlain (rBegin l i)]? = some 58 ∧ rColon l (i + qPlain (rBegin l i)) = false then (3, qPlain (rBegin l i) + 1) else (1, qName (rBegin l i)) := by
  have hn : rName l i = true := by rw [rName_iff]; simpa using h
  unfold rBest
  rw [if_pos hn]
  unfold rBest0
  rw [hn]
  have hqn := qName_plain (rBegin l i)
  have h1 : ∀ y ∈ rRules, y.1 = 1 → rCand l i op true y ≤ qName (rBegin l i) := by
    intro y hy h1
    refine Nat.le_trans (cand_le _ _ _ _ _) ?_
    rcases rules_cases hy with ⟨p, hp, rfl⟩ | ⟨p, hp, rfl⟩ | ⟨p, hp, rfl⟩ | ⟨p, hp, rfl⟩ | ⟨p, hp, q, hq, rfl⟩ | rfl | rfl | rfl | rfl <;> try (simp at h1; done)
    · exact Nat.le_trans (plain_len hp) hqn
    · rcases Nat.eq_zero_or_pos (rLen l i (p ++ [64, 65, 81, 42])) with h0 | h0
      · simp only; omega
      · exact (qual_bound hp (rLong_mem h0)).2
  have h0 : ∀ y ∈ rRules, y.1 ≠ 1 → y.1 ≠ 3 → rCand l i op true y = 0 := by
    intro y hy h1 h3
    unfold rCand rPass
    rw [if_pos]
    have a1 : (y.1 != 1) = true := by simpa using h1
    have a3 : (y.1 != 3) = true := by simpa using h3
    rw [a1, a3]; rfl
  have h3 : ∀ y ∈ rRules, y.1 = 3 → rCand l i op true y = 0 ∨ ((rBegin l i)[qPlain (rBegin l i)]? = some 58 ∧ rColon l (i + qPlain (rBegin l i)) = false ∧ rCand l i op true y = qPlain (rBegin l i) + 1) := by
    intro y hy h3
    rcases rules_cases hy with ⟨p, hp, rfl⟩ | ⟨p, hp, rfl⟩ | ⟨p, hp, rfl⟩ | ⟨p, hp, rfl⟩ | ⟨p, hp, q, hq, rfl⟩ | rfl | rfl | rfl | rfl <;> try (simp at h3; done)
    by_cases hp0 : rPass l i op true (3, p ++ [58]) = true
    · left; unfold rCand; rw [if_pos hp0]
    · right
      have hc : rCand l i op true (3, p ++ [58]) = rLen l i (p ++ [58]) := if_neg hp0
      unfold rPass at hp0
      simp only [Bool.or_eq_true, not_or, Bool.not_eq_true', Bool.not_eq_false] at hp0
      have ha := hp0.2
      unfold rAllowed at ha
      simp only at ha
      split at ha
      · cases ha
      · rename_i hne
        obtain ⟨g1, g2, g3⟩ := key_bound hp (rLong_mem (Nat.pos_of_ne_zero hne))
        have g3 : rLen l i (p ++ [58]) = qPlain (rBegin l i) + 1 := g3
        rw [if_pos trivial, g3] at ha
        rw [show i + (qPlain (rBegin l i) + 1) - 1 = i + qPlain (rBegin l i) by omega] at ha
        exact ⟨g2, by simpa using ha, by rw [hc, g3]⟩
  by_cases hk : (rBegin l i)[qPlain (rBegin l i)]? = some 58 ∧ rColon l (i + qPlain (rBegin l i)) = false
  · rw [if_pos hk]
    obtain ⟨k1, k2⟩ := hk
    have hqb : qualB (rBegin l i) (qPlain (rBegin l i)) = false := by unfold qualB; rw [k1]; simp
    have hqe : qName (rBegin l i) = qPlain (rBegin l i) := by rw [qName_eq, hqb]; rfl
    obtain ⟨p, hp, ht⟩ := key_exact h k1
    have hlen : rLen l i (p ++ [58]) = qPlain (rBegin l i) + 1 := by
      have h1 := rLong_ge ht
      have h2 := (key_bound hp (rLong_mem (p := rItems (p ++ [58])) (r := rBegin l i) (by omega))).2.2
      exact h2
    refine best_of (by omega) ⟨(3, p ++ [58]), rules_mem hp (by simp [rRulesOf]), rfl, ?_⟩ ?_
    · unfold rCand rPass rAllowed
      simp only [hlen, (head_plain p hp).2.2]
      rw [show i + (qPlain (rBegin l i) + 1) - 1 = i + qPlain (rBegin l i) by omega, k2]
      simp
    · intro y hy
      by_cases e1 : y.1 = 1
      · have := h1 y hy e1; omega
      · by_cases e3 : y.1 = 3
        · rcases h3 y hy e3 with h | ⟨_, _, h⟩ <;> omega
        · have := h0 y hy e1 e3; omega
  · rw [if_neg hk]
    refine best_of (by omega) ?_ ?_
    · by_cases hq : qualB (rBegin l i) (qPlain (rBegin l i)) = true
      · obtain ⟨p, hp, ht⟩ := qual_exact hq
        have hlen : rLen l i (p ++ [64, 65, 81, 42]) = qName (rBegin l i) := by
          have h1 := rLong_ge ht
          have h2 := (qual_bound hp (rLong_mem (p := rItems (p ++ [64, 65, 81, 42])) (r := rBegin l i) (by omega))).2
          exact Nat.le_antisymm h2 h1
        refine ⟨(1, p ++ [64, 65, 81, 42]), rules_mem hp (by simp [rRulesOf]), rfl, ?_⟩
        unfold rCand rPass rAllowed
        simp only [hlen, (head_plain p hp).2.1]
        rw [if_neg (show ¬ qName (rBegin l i) = 0 by omega)]
        simp
      · have hqe : qName (rBegin l i) = qPlain (rBegin l i) := by rw [qName_eq, if_neg hq]
        obtain ⟨p, hp, ht⟩ := plain_exact h
        have hlen : rLen l i p = qName (rBegin l i) := by
          have h1 := rLong_ge ht
          have h2 := plain_len (r := rBegin l i) hp
          unfold rLen; omega
        refine ⟨(1, p), rules_mem hp (by simp [rRulesOf]), rfl, ?_⟩
        unfold rCand rPass rAllowed
        simp only [hlen, (head_plain p hp).1]
        rw [if_neg (show ¬ qName (rBegin l i) = 0 by omega)]
        simp
    · intro y hy
      by_cases e1 : y.1 = 1
      · have := h1 y hy e1; omega
      · by_cases e3 : y.1 = 3
        · rcases h3 y hy e3 with h | ⟨g1, g2, _⟩
          · omega
          · exact absurd ⟨g1, g2⟩ hk
        · have := h0 y hy e1 e3; omega

/- Where no name begins. -/
theorem digit_run (r : Bs) : ∀ (k m : Nat), (∀ q, m ≤ q → q < m + k → rIn r 68 q = true) → k ≤ qRun 1 (r.drop m)
  | 0, m, _ => Nat.zero_le _
  | k + 1, m, h => by
    obtain ⟨b, hb, hm⟩ := rIn_some (h m (by omega) (by omega))
    obtain ⟨hlt, hge⟩ := List.getElem?_eq_some_iff.1 hb
    have := digit_run r k (m + 1) (fun q h1 h2 => h q (by omega) (by omega))
    rw [List.drop_eq_getElem_cons hlt, hge, qRun, if_pos (by exact hm)]
    omega
theorem run_digit (r : Bs) : ∀ (k m : Nat), k ≤ qRun 1 (r.drop m) → ∀ q, m ≤ q → q < m + k → rIn r 68 q = true
  | 0, m, _, q, h1, h2 => by omega
  | k + 1, m, h, q, h1, h2 => by
    have hlt : m < r.length := by
      rcases Nat.lt_or_ge m r.length with h' | h'
      · exact h'
      · rw [List.drop_eq_nil_of_le h'] at h; simp [qRun] at h
    rw [List.drop_eq_getElem_cons hlt, qRun] at h
    split at h
    · rename_i hc
      by_cases hq : q = m
      · subst hq; exact rIn_of (List.getElem?_eq_getElem hlt) hc
      · exact run_digit r k (m + 1) (by omega) q (by omega) (by omega)
    · omega

theorem long_digits (r : Bs) : rLong (rItems [68, 68, 42]) r = qRun 1 r := by
  have hi : rItems [68, 68, 42] = [(68, false), (68, true)] := by decide
  rw [hi]
  apply Nat.le_antisymm
  · rcases Nat.eq_zero_or_pos (rLong [(68, false), (68, true)] r) with h | h
    · omega
    · obtain ⟨h1, m, h2, h3, h4⟩ := rLong_mem h
      have h4 : m = rLong [(68, false), (68, true)] r := h4
      have := digit_run r m 0 (fun q _ hq => by
        by_cases h0 : q = 0
        · subst h0; exact h1
        · exact h3 q (by omega) (by omega))
      rw [List.drop_zero] at this
      omega
  · rcases Nat.eq_zero_or_pos (qRun 1 r) with h | h
    · omega
    · have hr := run_digit r (qRun 1 r) 0 (by rw [List.drop_zero]; exact Nat.le_refl _)
      exact rLong_ge (show Tk r [(68, false), (68, true)] 0 (qRun 1 r) from ⟨hr 0 (by omega) (by omega), qRun 1 r, by omega, fun q h1 h2 => hr q (by omega) (by omega), rfl⟩)

theorem long_neg (r : Bs) : rLong (rItems [45, 68, 68, 42]) r = if r.head? = some 45 ∧ 0 < qRun 1 (r.drop 1) then 1 + qRun 1 (r.drop 1) else 0 := by
  have hi : rItems [45, 68, 68, 42] = [(45, false), (68, false), (68, true)] := by decide
  rw [hi]
  apply Nat.le_antisymm
  · rcases Nat.eq_zero_or_pos (rLong [(45, false), (68, false), (68, true)] r) with h | h
    · omega
    · obtain ⟨h0, h1, m, h2, h3, h4⟩ := rLong_mem h
      have h4 : m = rLong [(45, false), (68, false), (68, true)] r := h4
      obtain ⟨b, hb1, hb2⟩ := rIn_byte h0 (by decide)
      have hb3 : b = 45 := byte_u8 hb2 (by decide)
      subst hb3
      have h2 : 0 + 1 + 1 ≤ m := h2
      have := digit_run r (m - 1) 1 (fun q _ hq => by
        by_cases h0 : q = 1
        · subst h0; exact h1
        · exact h3 q (by omega) (by omega))
      rw [if_pos ⟨by rw [List.head?_eq_getElem?, hb1], by omega⟩]
      omega
  · split
    · rename_i hc
      have hr := run_digit r (qRun 1 (r.drop 1)) 1 (Nat.le_refl _)
      refine rLong_ge (show Tk r [(45, false), (68, false), (68, true)] 0 (1 + qRun 1 (r.drop 1)) from ⟨rIn_is (by rw [← List.head?_eq_getElem?]; exact hc.1) 45 rfl (by decide), hr 1 (by omega) (by omega), 1 + qRun 1 (r.drop 1), by omega, fun q h1 h2 => hr q (by omega) (by omega), rfl⟩)
    · omega

theorem long_two (r : Bs) (a b : UInt8) (ha : a.toNat ≠ 76 ∧ a.toNat ≠ 68 ∧ a.toNat ≠ 87 ∧ a.toNat ≠ 70 ∧ a.toNat ≠ 66 ∧ a.toNat ≠ 81 ∧ a.toNat ≠ 65) (hb : b.toNat ≠ 76 ∧ b.toNat ≠ 68 ∧ b.toNat ≠ 87 ∧ b.toNat ≠ 70 ∧ b.toNat ≠ 66 ∧ b.toNat ≠ 81 ∧ b.toNat ≠ 65) :
    rLong [(a.toNat, false), (b.toNat, false)] r = if r.take 2 = [a, b] then 2 else 0 := by
  apply Nat.le_antisymm
  · rcases Nat.eq_zero_or_pos (rLong [(a.toNat, false), (b.toNat, false)] r) with h | h
    · omega
    · obtain ⟨h0, h1, h2⟩ := rLong_mem h
      have h2 : 2 = rLong [(a.toNat, false), (b.toNat, false)] r := h2
      obtain ⟨x, hx1, hx2⟩ := rIn_byte h0 ha
      obtain ⟨y, hy1, hy2⟩ := rIn_byte h1 hb
      have e1 : x = a := UInt8.toNat_inj.1 hx2
      have e2 : y = b := UInt8.toNat_inj.1 hy2
      subst e1; subst e2
      rw [if_pos]
      · omega
      · match r, hx1, hy1 with
        | [], hx1, _ => simp at hx1
        | [z], _, hy1 => simp at hy1
        | z :: z2 :: t, hx1, hy1 => simp at hx1 hy1; simp [hx1, hy1]
  · split
    · rename_i hc
      match r, hc with
      | [], hc => simp at hc
      | [z], hc => simp at hc
      | z :: z2 :: t, hc =>
        simp at hc
        obtain ⟨rfl, rfl⟩ := hc
        exact rLong_ge (show Tk (z :: z2 :: t) [(z.toNat, false), (z2.toNat, false)] 0 2 from ⟨rIn_is rfl _ rfl ha, rIn_is rfl _ rfl hb, rfl⟩)
    · omega
theorem long_t (r : Bs) : rLong (rItems [35, 116]) r = if r.take 2 = [35, 116] then 2 else 0 := long_two r 35 116 (by decide) (by decide)
theorem long_f (r : Bs) : rLong (rItems [35, 102]) r = if r.take 2 = [35, 102] then 2 else 0 := long_two r 35 102 (by decide) (by decide)

/-- What a pattern variable's rules take. -/
theorem pat_cand (l : Bs) (i : Nat) (op : Bool) {y : Nat × Bs} (hy : y ∈ rRules) (h6 : y.1 = 6) : rCand l i op false y ≤ qPat (rBegin l i) := by
  by_cases hp0 : rPass l i op false y = true
  · unfold rCand; rw [if_pos hp0]; omega
  · have hc : rCand l i op false y = rLen l i y.2 := if_neg hp0
    rw [hc]
    rcases rules_cases hy with ⟨p, hp, rfl⟩ | ⟨p, hp, rfl⟩ | ⟨p, hp, rfl⟩ | ⟨p, hp, rfl⟩ | ⟨p, hp, q, hq, rfl⟩ | rfl | rfl | rfl | rfl <;> try (simp at h6; done)
    · rcases Nat.eq_zero_or_pos (rLen l i (63 :: p)) with h | h
      · simp only; omega
      · obtain ⟨h1, h2, h3, h4⟩ := pat_bound hp (rLong_mem h)
        have := qPat_plain _ h1 h2
        exact Nat.le_trans h4 this
    · rcases Nat.eq_zero_or_pos (rLen l i (63 :: p ++ 58 :: q)) with h | h
      · simp only; omega
      · obtain ⟨h1, h2, h3, h4, h5, h6'⟩ := pat2_bound hp hq (rLong_mem h)
        have hlen : rLen l i (63 :: p ++ 58 :: q) ≤ qPlain ((rBegin l i).drop 1) + 2 + qPlain ((rBegin l i).drop (qPlain ((rBegin l i).drop 1) + 2)) := h6'
        have hgt : qPlain ((rBegin l i).drop 1) + 2 < rLen l i (63 :: p ++ 58 :: q) := h5
        have hle100 : rLen l i (63 :: p ++ 58 :: q) ≤ (rBegin l i).length := rLong_le _ _
        have hb100 : (rBegin l i).length ≤ 100 := by unfold rBegin; rw [List.length_take]; omega
        -- the colon is the first one, and what follows it is no colon and no sign of equality
        have hcol : qColon ((rBegin l i).drop (qPlain ((rBegin l i).drop 1) + 1)) = true := by
          unfold rPass at hp0
          simp only [Bool.or_eq_true, not_or, Bool.not_eq_true', Bool.not_eq_false] at hp0
          have ha := hp0.2
          unfold rAllowed at ha
          simp only at ha
          rw [if_neg (by omega), if_neg (by omega), if_pos trivial] at ha
          have hnext := plain_top h4
          have hf := hnext.front
          rw [rIn_drop, rIn_drop, Nat.add_zero] at hf
          have hnb : ∀ c, (rBegin l i)[qPlain ((rBegin l i).drop 1) + 2]? = some c → c ≠ 58 ∧ c ≠ 61 := by
            intro c hc2
            rcases hf with hf | hf <;> obtain ⟨b, hb1, hb2⟩ := rIn_some hf <;> rw [hc2] at hb1 <;> cases hb1
            · exact ⟨fun e => by subst e; exact absurd hb2 (by decide), fun e => by subst e; exact absurd hb2 (by decide)⟩
            · exact ⟨fun e => by subst e; exact absurd hb2 (by decide), fun e => by subst e; exact absurd hb2 (by decide)⟩
          unfold qColon
          rw [List.head?_eq_getElem?, List.getElem?_drop, List.getElem?_drop, Nat.add_zero, h3]
          cases hx : (rBegin l i)[qPlain ((rBegin l i).drop 1) + 1 + 1]? with
          | none => simp
          | some c =>
            have := hnb c hx
            simp [this.1, this.2]
        rw [qPat_3 _ h1 _ rfl h2 hcol _ rfl, if_pos h4]
        exact hlen

theorem first_colon : ∀ {v : Bs} {k : Nat}, v[k]? = some 58 → (∀ q : Nat, q < k → v[q]? ≠ some 58) → Lib.indexByte v 58 = k
  | [], k, h, _ => by simp at h
  | a :: t, 0, h, _ => by
    simp at h; subst h; simp [Lib.indexByte]
  | a :: t, k + 1, h, hb => by
    have h0 := hb 0 (by omega)
    simp only [List.getElem?_cons_zero, ne_eq, Option.some.injEq] at h0
    have h1 := first_colon (v := t) (k := k) (by simpa using h) (fun q hq => by have := hb (q + 1) (by omega); simpa using this)
    have hab : (a == 58) = false := by simpa using h0
    simp only [Lib.indexByte, hab, h1, Bool.false_eq_true, if_false]
    rw [if_neg (by simp)]
    omega
theorem no_colon {v : Bs} (hb : ∀ q : Nat, v[q]? ≠ some 58) : Lib.indexByte v 58 < 0 := by
  rcases Int.lt_or_le (Lib.indexByte v 58) 0 with h | h
  · exact h
  · exact absurd (index_at v 58 h) (hb _)

/-- Where no name begins, but a pattern variable. -/
theorem pat_top (l : Bs) (i : Nat) (op : Bool) (h0 : 0 < qPat (rBegin l i)) : ∃ y ∈ rRules, y.1 = 6 ∧ rCand l i op false y = qPat (rBegin l i) := by
  have hh : ((rBegin l i).head? == some 63) = true := by
    cases hx : ((rBegin l i).head? == some 63)
    · rw [qPat_0 _ hx] at h0; omega
    · rfl
  have hp0 : 0 < qPlain ((rBegin l i).drop 1) := by
    rcases Nat.eq_zero_or_pos (qPlain ((rBegin l i).drop 1)) with h | h
    · rw [qPat_1 _ hh h] at h0; omega
    · exact h
  have hq63 : (rBegin l i)[0]? = some 63 := by rw [← List.head?_eq_getElem?]; simpa using hh
  have hno : ∀ q, q < qPlain ((rBegin l i).drop 1) + 1 → (rBegin l i)[q]? ≠ some 58 := by
    intro q hq e
    by_cases hq0 : q = 0
    · subst hq0; rw [hq63] at e; cases e
    · have hw := (plain_top hp0).word (q - 1) (by omega) (by omega)
      rw [rIn_drop, show 1 + (q - 1) = q by omega] at hw
      obtain ⟨b, hb1, hb2⟩ := rIn_some hw
      rw [e] at hb1; cases hb1
      exact absurd hb2 (by decide)
  have hb100 : (rBegin l i).length ≤ 100 := by unfold rBegin; rw [List.length_take]; omega
  have hsub : ∀ n q : Nat, n ≤ 100 → q < n → ((l.drop i).take n)[q]? = (rBegin l i)[q]? := by
    intro n q hn hq
    unfold rBegin
    rw [get_pre _ _ _ hq, get_pre _ _ _ (by omega)]
  have hget : ∀ q : Nat, q < 100 → (rBegin l i)[q]? = l[i + q]? := by
    intro q hq
    unfold rBegin
    rw [get_pre _ _ _ hq, List.getElem?_drop]
  by_cases hc : qColon ((rBegin l i).drop (qPlain ((rBegin l i).drop 1) + 1)) = true ∧ 0 < qPlain ((rBegin l i).drop (qPlain ((rBegin l i).drop 1) + 2))
  · obtain ⟨c1, c2⟩ := hc
    have h58 : (rBegin l i)[qPlain ((rBegin l i).drop 1) + 1]? = some 58 := by
      unfold qColon at c1
      simp only [Bool.and_eq_true] at c1
      have := c1.1.1
      rw [List.head?_eq_getElem?, List.getElem?_drop] at this
      simpa using this
    have hval := qPat_3 _ hh _ rfl hp0 c1 _ rfl
    rw [if_pos c2] at hval
    obtain ⟨p, hp, q, hq, ht⟩ := pat2_exact hh hp0 h58 c2
    have hlen : rLen l i (63 :: p ++ 58 :: q) = qPat (rBegin l i) := by
      have g1 := rLong_ge ht
      have g2 := (pat2_bound hp hq (rLong_mem (p := rItems (63 :: p ++ 58 :: q)) (r := rBegin l i) (by omega))).2.2.2.2.2
      unfold rLen; omega
    have hle100 : rLen l i (63 :: p ++ 58 :: q) ≤ (rBegin l i).length := rLong_le _ _
    refine ⟨(6, 63 :: p ++ 58 :: q), rules_mem hp (by unfold rRulesOf; rw [List.mem_append]; exact .inr (List.mem_map.2 ⟨q, hq, rfl⟩)), rfl, ?_⟩
    have hidx : Lib.indexByte ((l.drop i).take (qPat (rBegin l i))) 58 = ((qPlain ((rBegin l i).drop 1) + 1 : Nat) : Int) := by
      refine first_colon ?_ ?_
      · rw [hsub _ _ (by omega) (by omega)]; exact h58
      · intro e he; rw [hsub _ _ (by omega) (by omega)]; exact hno e he
    have hcl : rColon l (i + (qPlain ((rBegin l i).drop 1) + 1)) = false := by
      have hf := (plain_top c2).front
      rw [rIn_drop, rIn_drop, Nat.add_zero] at hf
      have hlx : l[i + (qPlain ((rBegin l i).drop 1) + 1) + 1]? = (rBegin l i)[qPlain ((rBegin l i).drop 1) + 2]? := by
        rw [hget _ (by omega)]; congr 1
      unfold rColon
      rw [hlx]
      rcases hf with hf | hf <;> obtain ⟨b, hb1, hb2⟩ := rIn_some hf <;> rw [hb1]
      · have n1 : b ≠ 58 := fun e => by subst e; exact absurd hb2 (by decide)
        have n2 : b ≠ 61 := fun e => by subst e; exact absurd hb2 (by decide)
        simp [n1, n2]
      · have n1 : b ≠ 58 := fun e => by subst e; exact absurd hb2 (by decide)
        have n2 : b ≠ 61 := fun e => by subst e; exact absurd hb2 (by decide)
        simp [n1, n2]
    generalize qPlain ((rBegin l i).drop 1) = K at hidx hcl
    unfold rCand rPass rAllowed
    simp only [hlen, hidx, Int.toNat_natCast, hcl]
    rw [if_neg (show ¬ qPat (rBegin l i) = 0 by omega)]
    simp
  · have hval : qPat (rBegin l i) = qPlain ((rBegin l i).drop 1) + 1 := by
      cases hcc : qColon ((rBegin l i).drop (qPlain ((rBegin l i).drop 1) + 1))
      · exact qPat_2 _ hh _ rfl hp0 hcc
      · rw [qPat_3 _ hh _ rfl hp0 hcc _ rfl, if_neg (fun h => hc ⟨hcc, h⟩)]
    obtain ⟨p, hp, ht⟩ := pat_exact hh hp0
    have hlen : rLen l i (63 :: p) = qPat (rBegin l i) := by
      have g1 := rLong_ge ht
      have g2 := (pat_bound hp (rLong_mem (p := rItems (63 :: p)) (r := rBegin l i) (by omega))).2.2.2
      unfold rLen; omega
    have hle100 : rLen l i (63 :: p) ≤ (rBegin l i).length := rLong_le _ _
    refine ⟨(6, 63 :: p), rules_mem hp (by simp [rRulesOf]), rfl, ?_⟩
    have hidx : Lib.indexByte ((l.drop i).take (qPat (rBegin l i))) 58 < 0 := by
      refine no_colon fun q e => ?_
      by_cases hq : q < qPat (rBegin l i)
      · rw [hsub _ _ (by omega) hq] at e
        exact hno q (by omega) e
      · rw [List.getElem?_take, if_neg hq] at e; cases e
    unfold rCand rPass rAllowed
    simp only [hlen]
    rw [if_neg (show ¬ qPat (rBegin l i) = 0 by omega)]
    simp [hidx]
end Go.Proofs.YtopbmndjnjnmcaaGreatDoor

namespace Go.Proofs.YtopbmndjnjnmcaaGreatDoor
open Go.RowKit Lx

theorem cand13 (l : Bs) (i : Nat) (op : Bool) (h : qPlain (rBegin l i) = 0) {y : Nat × Bs} (hy : y ∈ rRules) (h13 : y.1 = 1 ∨ y.1 = 3) : rCand l i op false y = 0 := by
  have hle := cand_le l i op false y
  have hz : rLen l i y.2 = 0 := by
    rcases Nat.eq_zero_or_pos (rLen l i y.2) with h0 | h0
    · exact h0
    · exfalso
      rcases rules_cases hy with ⟨p, hp, rfl⟩ | ⟨p, hp, rfl⟩ | ⟨p, hp, rfl⟩ | ⟨p, hp, rfl⟩ | ⟨p, hp, q, hq, rfl⟩ | rfl | rfl | rfl | rfl <;> try (simp at h13; done)
      · have := plain_len (r := rBegin l i) hp; unfold rLen at h0; simp only at h0; omega
      · have := (qualB_inv (qual_bound hp (rLong_mem h0)).1).1; omega
      · have := (key_bound hp (rLong_mem h0)).1; omega
  omega

theorem allowed2 (l : Bs) (i : Nat) (p : Bs) (k : Nat) (hk : k = 2 ∨ k = 4) : rAllowed l i (k, p) = !decide (rLen l i p = 0) := by
  unfold rAllowed
  rcases hk with rfl | rfl <;> (by_cases h : rLen l i p = 0 <;> simp [h])

theorem cand_digits (l : Bs) (i : Nat) (op : Bool) : rCand l i op false (2, [68, 68, 42]) = qRun 1 (rBegin l i) := by
  have h : rLen l i [68, 68, 42] = qRun 1 (rBegin l i) := long_digits _
  unfold rCand rPass
  rw [allowed2 l i _ 2 (.inl rfl)]
  simp only [h]
  by_cases h0 : qRun 1 (rBegin l i) = 0
  · simp [h0]
  · simp [h0]
theorem cand_neg (l : Bs) (i : Nat) (op : Bool) : rCand l i op false (2, [45, 68, 68, 42]) = if (rBegin l i).head? = some 45 ∧ 0 < qRun 1 ((rBegin l i).drop 1) ∧ op = false then 1 + qRun 1 ((rBegin l i).drop 1) else 0 := by
  have h : rLen l i [45, 68, 68, 42] = _ := long_neg (rBegin l i)
  unfold rCand rPass
  rw [allowed2 l i _ 2 (.inl rfl)]
  have hR : ∀ (A B : Prop) [Decidable A] [Decidable B] (q : Nat), (if A ∧ B ∧ op = false then q else 0) = if op = false then (if A ∧ B then q else 0) else 0 := by
    intro A B _ _ q
    cases op
    · by_cases hc : A ∧ B
      · simp [hc.1, hc.2]
      · rw [if_neg (fun h => hc ⟨h.1, h.2.1⟩), if_neg hc]; rfl
    · simp
  rw [hR, ← h]
  cases op
  · by_cases hq : rLen l i [45, 68, 68, 42] = 0
    · simp [hq]
    · simp [hq]
  · simp
theorem cand_t (l : Bs) (i : Nat) (op : Bool) : rCand l i op false (4, [35, 116]) = if (rBegin l i).take 2 = [35, 116] then 2 else 0 := by
  have h : rLen l i [35, 116] = _ := long_t (rBegin l i)
  unfold rCand rPass
  rw [allowed2 l i _ 4 (.inr rfl)]
  simp only [h]
  split <;> simp
theorem cand_f (l : Bs) (i : Nat) (op : Bool) : rCand l i op false (4, [35, 102]) = if (rBegin l i).take 2 = [35, 102] then 2 else 0 := by
  have h : rLen l i [35, 102] = _ := long_f (rBegin l i)
  unfold rCand rPass
  rw [allowed2 l i _ 4 (.inr rfl)]
  simp only [h]
  split <;> simp

theorem int_cand (l : Bs) (i : Nat) (op : Bool) {y : Nat × Bs} (hy : y ∈ rRules) (h2 : y.1 = 2) : rCand l i op false y ≤ qInt (rBegin l i) op := by
  rcases rules_cases hy with ⟨p, hp, rfl⟩ | ⟨p, hp, rfl⟩ | ⟨p, hp, rfl⟩ | ⟨p, hp, rfl⟩ | ⟨p, hp, q, hq, rfl⟩ | rfl | rfl | rfl | rfl <;> try (simp at h2; done)
  · rw [cand_digits]
    by_cases hh : ((rBegin l i).head? == some 45 && !op) = true
    · have : qRun 1 (rBegin l i) = 0 := by
        simp only [Bool.and_eq_true, beq_iff_eq] at hh
        cases hr : rBegin l i with
        | nil => rfl
        | cons c t => rw [hr] at hh; simp at hh; rw [hh.1, qRun, if_neg (by decide)]
      omega
    · rw [qInt_plain _ op (by simpa using hh) _ rfl]; split <;> omega
  · rw [cand_neg]
    split
    · rename_i hc
      rw [qInt_minus _ op (by simp [hc.1, hc.2.2]) _ rfl, if_pos hc.2.1]
      exact Nat.le_refl _
    · omega
theorem int_top (l : Bs) (i : Nat) (op : Bool) (h0 : 0 < qInt (rBegin l i) op) : ∃ y ∈ rRules, y.1 = 2 ∧ rCand l i op false y = qInt (rBegin l i) op := by
  by_cases hh : ((rBegin l i).head? == some 45 && !op) = true
  · refine ⟨(2, [45, 68, 68, 42]), rules_last (by simp), rfl, ?_⟩
    rw [qInt_minus _ op hh _ rfl] at h0 ⊢
    rw [cand_neg]
    simp only [Bool.and_eq_true, beq_iff_eq, Bool.not_eq_true'] at hh
    split at h0
    · rename_i hc; rw [if_pos hc, if_pos ⟨hh.1, hc, hh.2⟩]
    · omega
  · refine ⟨(2, [68, 68, 42]), rules_last (by simp), rfl, ?_⟩
    rw [qInt_plain _ op (by simpa using hh) _ rfl] at h0 ⊢
    rw [cand_digits]
    split at h0
    · rename_i hc; rw [if_pos hc]
    · omega
theorem hash_cand (l : Bs) (i : Nat) (op : Bool) {y : Nat × Bs} (hy : y ∈ rRules) (h4 : y.1 = 4) : rCand l i op false y ≤ qHash (rBegin l i) := by
  unfold qHash
  rcases rules_cases hy with ⟨p, hp, rfl⟩ | ⟨p, hp, rfl⟩ | ⟨p, hp, rfl⟩ | ⟨p, hp, rfl⟩ | ⟨p, hp, q, hq, rfl⟩ | rfl | rfl | rfl | rfl <;> try (simp at h4; done)
  · rw [cand_t]; split
    · rename_i h; rw [if_pos (by rw [h]; rfl)]; exact Nat.le_refl _
    · omega
  · rw [cand_f]; split
    · rename_i h; rw [if_pos (by rw [h]; rfl)]; exact Nat.le_refl _
    · omega
theorem hash_top (l : Bs) (i : Nat) (op : Bool) (h0 : 0 < qHash (rBegin l i)) : ∃ y ∈ rRules, y.1 = 4 ∧ rCand l i op false y = qHash (rBegin l i) := by
  unfold qHash at h0 ⊢
  split at h0
  · rename_i hc
    rw [if_pos hc]
    simp only [Bool.or_eq_true, beq_iff_eq] at hc
    rcases hc with hc | hc
    · exact ⟨(4, [35, 116]), rules_last (by simp), rfl, by rw [cand_t, if_pos hc]⟩
    · exact ⟨(4, [35, 102]), rules_last (by simp), rfl, by rw [cand_f, if_pos hc]⟩
  · omega

theorem rules_kinds {y : Nat × Bs} (hy : y ∈ rRules) : y.1 = 1 ∨ y.1 = 3 ∨ y.1 = 2 ∨ y.1 = 4 ∨ y.1 = 6 := by
  rcases rules_cases hy with ⟨p, hp, rfl⟩ | ⟨p, hp, rfl⟩ | ⟨p, hp, rfl⟩ | ⟨p, hp, rfl⟩ | ⟨p, hp, q, hq, rfl⟩ | rfl | rfl | rfl | rfl <;> simp

/-- What the first bytes say. -/
theorem int_first (r : Bs) (op : Bool) (h : 0 < qInt r op) : qHash r = 0 ∧ qPat r = 0 ∧ qSign r ≤ 1 := by
  match r, h with
  | [], h => cases op <;> simp [qInt, qRun] at h
  | c :: t, h =>
    have hc : c = 45 ∨ cDigit c.toNat = true := by
      by_cases hh : ((c :: t).head? == some 45 && !op) = true
      · simp at hh; exact .inl hh.1
      · right
        rw [qInt_plain _ op (by simpa using hh) _ rfl] at h
        split at h
        · rename_i h0
          rw [qRun] at h0
          split at h0
          · assumption
          · omega
        · omega
    have hne : ∀ d : UInt8, d ≠ 45 → cDigit d.toNat = false → c ≠ d := by
      intro d h1 h2 e; subst e
      rcases hc with hc | hc
      · exact h1 hc
      · rw [hc] at h2; cases h2
    refine ⟨?_, ?_, ?_⟩
    · unfold qHash
      rw [if_neg]
      intro hx
      cases t with
      | nil => simp at hx
      | cons d u =>
        simp at hx
        exact hne 35 (by decide) (by decide) (by rcases hx with hx | hx <;> exact hx.1)
    · exact qPat_0 _ (by simpa using hne 63 (by decide) (by decide))
    · unfold qSign
      rw [if_neg]
      · simp; split <;> omega
      · cases t with
        | nil => simp [qTwo]
        | cons d u =>
          have a := hne 58 (by decide) (by decide)
          have b := hne 61 (by decide) (by decide)
          have c2 := hne 60 (by decide) (by decide)
          have d2 := hne 62 (by decide) (by decide)
          simp [qTwo, a, b, c2, d2]
theorem hash_first (r : Bs) (h : 0 < qHash r) : qPat r = 0 ∧ qSign r = 0 := by
  unfold qHash at h
  split at h
  · rename_i hc
    match r, hc with
    | [], hc => simp at hc
    | [c], hc => simp at hc
    | c :: d :: t, hc =>
      have hc2 : c = 35 := by
        simp at hc
        rcases hc with hc | hc <;> exact hc.1
      subst hc2
      exact ⟨qPat_0 _ (by simp), by unfold qSign; rw [if_neg (by simp [qTwo])]; simp [qOne]⟩
  · omega
theorem pat_first (r : Bs) (h : 0 < qPat r) : qSign r ≤ 1 ∧ 2 ≤ qPat r := by
  have hh : (r.head? == some 63) = true := by
    cases hx : (r.head? == some 63)
    · rw [qPat_0 _ hx] at h; omega
    · rfl
  have hp : 0 < qPlain (r.drop 1) := by
    rcases Nat.eq_zero_or_pos (qPlain (r.drop 1)) with h0 | h0
    · rw [qPat_1 _ hh h0] at h; omega
    · exact h0
  have := qPat_plain r hh hp
  refine ⟨?_, by omega⟩
  match r, hh with
  | [], hh => simp at hh
  | c :: t, hh =>
    simp at hh; subst hh
    unfold qSign
    rw [if_neg (by cases t <;> simp [qTwo])]
    simp; split <;> omega

/- Signs. -/
theorem sign_fold (l : Bs) (i k : Nat) (hk : 0 < k) : ∀ (ws : List Bs), (∀ w ∈ ws, w.length = k) → ∀ o : Nat × Nat, ws.foldl (rSign l i) o = if o.2 < k ∧ ws.contains ((l.drop i).take k) = true then (5, k) else o
  | [], _, o => by simp
  | w :: t, h, o => by
    have hw := h w (by simp)
    have ih := sign_fold l i k hk t (fun x hx => h x (by simp [hx]))
    rw [List.foldl_cons, ih]
    unfold rSign
    rw [hw]
    by_cases h1 : o.2 < k
    · by_cases h2 : (l.drop i).take k = w
      · have e : (if o.2 < k ∧ (l.drop i).take k = w then ((5 : Nat), k) else o) = (5, k) := if_pos ⟨h1, h2⟩
        rw [e]
        simp [h1, h2]
      · have e : (if o.2 < k ∧ (l.drop i).take k = w then ((5 : Nat), k) else o) = o := if_neg (fun h => h2 h.2)
        rw [e]
        simp only [List.contains_cons]
        have : ((l.drop i).take k == w) = false := by simpa using h2
        rw [this, Bool.false_or]
    · have e : (if o.2 < k ∧ (l.drop i).take k = w then ((5 : Nat), k) else o) = o := if_neg (fun h => h1 h.1)
      rw [e, if_neg (fun h => h1 h.1), if_neg (fun h => h1 h.1)]

def rOne : List Bs := [[40], [41], [91], [93], [123], [125], [44], [59], [46], [61], [60], [62], [43], [45], [42], [47], [38], [124], [126], [63]]
theorem signs_split : rSigns = rOne ++ qTwo := by decide
theorem one_contains (c : UInt8) : rOne.contains [c] = qOne.contains c := by
  have h : rOne = qOne.map fun x => [x] := by decide
  rw [h]
  generalize qOne = q
  induction q with
  | nil => rfl
  | cons a t ih => simp only [List.map_cons, List.contains_cons, ih]; congr 1; simp

theorem signs_best (l : Bs) (i : Nat) (o : Nat × Nat) : rSigns.foldl (rSign l i) o = if o.2 < qSign (rBegin l i) then (5, qSign (rBegin l i)) else o := by
  rw [signs_split, List.foldl_append, sign_fold l i 1 (by omega) rOne (by decide), sign_fold l i 2 (by omega) qTwo (by decide)]
  have e2 : (l.drop i).take 2 = (rBegin l i).take 2 := by unfold rBegin; rw [List.take_take]; rfl
  have e1 : (l.drop i).take 1 = (rBegin l i).take 1 := by unfold rBegin; rw [List.take_take]; rfl
  rw [e1, e2]
  generalize rBegin l i = r
  by_cases h2 : qTwo.contains (r.take 2) = true
  · have es : qSign r = 2 := if_pos h2
    rw [h2, es]
    have hle : (if o.2 < 1 ∧ rOne.contains (r.take 1) = true then ((5 : Nat), 1) else o).2 < 2 ↔ o.2 < 2 := by
      split
      · rename_i h; simp only; omega
      · exact Iff.rfl
    by_cases ho : o.2 < 2
    · rw [if_pos ⟨hle.2 ho, rfl⟩, if_pos ho]
    · rw [if_neg (fun h => ho (hle.1 h.1)), if_neg ho, if_neg (by omega)]
  · rw [if_neg (fun h => h2 h.2)]
    cases r with
    | nil =>
      have es : qSign [] = 0 := by decide
      rw [es]; simp [rOne]
    | cons c t =>
      have : (c :: t).take 1 = [c] := rfl
      have es : qSign (c :: t) = if qOne.contains c = true then 1 else 0 := by unfold qSign; rw [if_neg h2]; rfl
      rw [this, one_contains]
      by_cases h1 : qOne.contains c = true
      · rw [if_pos h1] at es
        rw [es, h1]; simp
      · rw [if_neg h1] at es
        rw [es, if_neg (fun h => h1 h.2), if_neg (by omega)]

theorem longest_noname {r : Bs} {op : Bool} (h : qPlain r = 0) : qLongest r op = qBetter (qBetter (qBetter (qBetter (0, 0) 2 (qInt r op)) 4 (qHash r)) 5 (qSign r)) 6 (qPat r) := by
  have h1 : qName r = 0 := by
    rw [qName_eq, h, if_neg]
    unfold qualB; simp
  have h3 : qKey r = 0 := by
    unfold qKey; simp only [h]; simp
  unfold qLongest
  rw [h1, h3, better_no (p := (0, 0)) (n := 0) (by simp), better_no (n := 0) (by simp)]

/-- Where no name begins the best rule is the longest one. -/
theorem best_noname (l : Bs) (i : Nat) (op : Bool) (h : qPlain (rBegin l i) = 0) : rBest l i op = qLongest (rBegin l i) op := by
  have hn : rName l i = false := by rw [rName_iff]; simp [h]
  unfold rBest
  rw [if_neg (by simp [hn]), signs_best, longest_noname h]
  have key : ∀ k n : Nat, 0 < n → (∃ y ∈ rRules, y.1 = k ∧ rCand l i op false y = n) → (∀ y ∈ rRules, y.1 ≠ k → rCand l i op false y = 0) → (∀ y ∈ rRules, y.1 = k → rCand l i op false y ≤ n) → rBest0 l i op = (k, n) := by
    intro k n h0 h1 h2 h3
    unfold rBest0
    rw [hn]
    refine best_of h0 h1 fun y hy => ?_
    by_cases hk : y.1 = k
    · exact ⟨h3 y hy hk, fun _ => by omega⟩
    · have := h2 y hy hk; omega
  have c13 : ∀ y ∈ rRules, y.1 = 1 ∨ y.1 = 3 → rCand l i op false y = 0 := fun y hy h13 => cand13 l i op h hy h13
  have c2 : ∀ y ∈ rRules, y.1 = 2 → rCand l i op false y ≤ qInt (rBegin l i) op := fun y hy => int_cand l i op hy
  have c4 : ∀ y ∈ rRules, y.1 = 4 → rCand l i op false y ≤ qHash (rBegin l i) := fun y hy => hash_cand l i op hy
  have c6 : ∀ y ∈ rRules, y.1 = 6 → rCand l i op false y ≤ qPat (rBegin l i) := fun y hy => pat_cand l i op hy
  have ck := @rules_kinds
  by_cases hI : 0 < qInt (rBegin l i) op
  · obtain ⟨f1, f2, f3⟩ := int_first _ op hI
    rw [key 2 _ hI (int_top l i op hI) (fun y hy hk => by
      rcases ck hy with h | h | h | h | h
      · exact c13 y hy (.inl h)
      · exact c13 y hy (.inr h)
      · exact absurd h hk
      · have := c4 y hy h; omega
      · have := c6 y hy h; omega) c2]
    rw [f1, f2, if_neg (by simp only; omega)]
    have : qBetter (0, 0) 2 (qInt (rBegin l i) op) = (2, qInt (rBegin l i) op) := if_pos hI
    rw [this, better_no (p := (2, qInt (rBegin l i) op)) (n := 0) (by omega), better_no (p := (2, qInt (rBegin l i) op)) (n := qSign (rBegin l i)) (by simp only; omega), better_no (p := (2, qInt (rBegin l i) op)) (n := 0) (by omega)]
  · have hI0 : qInt (rBegin l i) op = 0 := by omega
    rw [hI0, better_no (p := (0, 0)) (n := 0) (by omega)]
    by_cases hH : 0 < qHash (rBegin l i)
    · obtain ⟨f1, f2⟩ := hash_first _ hH
      rw [key 4 _ hH (hash_top l i op hH) (fun y hy hk => by
        rcases ck hy with h | h | h | h | h
        · exact c13 y hy (.inl h)
        · exact c13 y hy (.inr h)
        · have := c2 y hy h; omega
        · exact absurd h hk
        · have := c6 y hy h; omega) c4]
      rw [f1, f2, if_neg (by omega)]
      have : qBetter (0, 0) 4 (qHash (rBegin l i)) = (4, qHash (rBegin l i)) := if_pos hH
      rw [this, better_no (p := (4, qHash (rBegin l i))) (n := 0) (by omega), better_no (p := (4, qHash (rBegin l i))) (n := 0) (by omega)]
    · have hH0 : qHash (rBegin l i) = 0 := by omega
      rw [hH0, better_no (p := (0, 0)) (n := 0) (by omega)]
      by_cases hP : 0 < qPat (rBegin l i)
      · obtain ⟨f1, f2⟩ := pat_first _ hP
        rw [key 6 _ hP (pat_top l i op hP) (fun y hy hk => by
          rcases ck hy with h | h | h | h | h
          · exact c13 y hy (.inl h)
          · exact c13 y hy (.inr h)
          · have := c2 y hy h; omega
          · have := c4 y hy h; omega
          · exact absurd h hk) c6]
        rw [if_neg (by simp only; omega)]
        have hs : (qBetter (0, 0) 5 (qSign (rBegin l i))).2 ≤ 1 := by unfold qBetter; split <;> simp only <;> omega
        exact (if_pos (by omega)).symm
      · have hP0 : qPat (rBegin l i) = 0 := by omega
        have hz : rBest0 l i op = (0, 0) := by
          unfold rBest0; rw [hn]
          refine best_none fun y hy => ?_
          rcases ck hy with h | h | h | h | h
          · exact c13 y hy (.inl h)
          · exact c13 y hy (.inr h)
          · have := c2 y hy h; omega
          · have := c4 y hy h; omega
          · have := c6 y hy h; omega
        rw [hz, hP0]
        by_cases hS : 0 < qSign (rBegin l i)
        · rw [if_pos hS]
          have : qBetter (0, 0) 5 (qSign (rBegin l i)) = (5, qSign (rBegin l i)) := if_pos hS
          rw [this, better_no (p := (5, qSign (rBegin l i))) (n := 0) (by omega)]
        · rw [if_neg hS]
          have : qBetter (0, 0) 5 (qSign (rBegin l i)) = (0, 0) := if_neg (by simp only; omega)
          rw [this, better_no (p := (0, 0)) (n := 0) (by omega)]
end Go.Proofs.YtopbmndjnjnmcaaGreatDoor

namespace Go.Proofs.YtopbmndjnjnmcaaGreatDoor
open Go.RowKit Lx

/-- The error of an integer. -/
def rInteger (l : Bs) (i n : Nat) : Nat := if (decide (100 ≤ n) || qAt 6 l (i + n) || !qCanon ((l.drop i).take n)) = true then 11 else 0
/-- The error of a token. -/
def rErr (l : Bs) (i : Nat) (m : Nat × Nat) : Nat :=
  if m.1 = 2 then rInteger l i m.2
  else if (l[i]? == some 35 && (m.1 == 0 || qAt 2 l (i + 2))) = true then 12
  else if m.1 = 0 then 10
  else if m.1 ≠ 5 ∧ 40 < m.2 then 2
  else 0

theorem qB_zero (l : Bs) (op : Bool) : ∀ k, (qB l op k).2 = 0 → (qB l op k).1 = 0
  | 0, _ => rfl
  | k + 1, h => by
    simp only [qB, qBetter] at h ⊢
    split
    · rename_i hc; rw [if_pos hc] at h; simp only at h; omega
    · rename_i hc; rw [if_neg hc] at h; exact qB_zero l op k h
theorem canon_length {l : Bs} (h : qCanon l = true) : l.length ≤ 21 := by
  unfold qCanon at h
  split at h
  · rename_i n hn
    have hb := atoi_bounds l n hn
    have := Lib.itoa_length_le n hb.1 hb.2
    simp only [beq_iff_eq] at h
    rw [h] at this; exact this
  · cases h

theorem rBegin_get (l : Bs) (i q : Nat) (hq : q < 100) : (rBegin l i)[q]? = l[i + q]? := by
  unfold rBegin; rw [get_pre _ _ _ hq, List.getElem?_drop]

/-- Of the kinds, what is taken. -/
theorem longest_kind {r : Bs} {op : Bool} {K N : Nat} (h : qLongest r op = (K, N)) : (N = 0 ∧ K = 0) ∨ (0 < N ∧ ∃ j, j < 6 ∧ K = j + 1 ∧ qLen r op j = N) := by
  rcases qB_is r op 6 with h0 | ⟨j, hj, h1, h2⟩
  · left
    have hz := qB_zero r op 6 h0
    rw [qB_6, h] at h0 hz
    exact ⟨h0, hz⟩
  · rw [qB_6, h] at h1 h2
    rcases Nat.eq_zero_or_pos N with hN | hN
    · left
      have := qB_zero r op 6 (by rw [qB_6, h]; exact hN)
      rw [qB_6, h] at this
      exact ⟨hN, this⟩
    · exact .inr ⟨hN, j, hj, h1, h2⟩

/-- check, of the longest match. -/
theorem check_noname (l : Bs) (i : Nat) (op : Bool) (hi : i < l.length) (K N : Nat) (h : qLongest (rBegin l i) op = (K, N)) (hlen : i + N ≤ l.length) : qCheck l i K N = rErr l i (K, N) := by
  obtain ⟨c, hc⟩ : ∃ c, l[i]? = some c := ⟨_, List.getElem?_eq_getElem hi⟩
  have hr0 : (rBegin l i)[0]? = some c := by rw [rBegin_get _ _ _ (by omega)]; exact hc
  have hhead : (rBegin l i).head? = some c := by rw [List.head?_eq_getElem?]; exact hr0
  have hk := longest_kind h
  unfold rErr
  simp only
  by_cases h2 : K = 2
  · subst h2
    rw [if_pos rfl]
    rcases hk with ⟨_, h0⟩ | ⟨hN, j, hj, hj1, hj2⟩
    · cases h0
    · obtain rfl : j = 1 := by omega
      have hI : qInt (rBegin l i) op = N := hj2
      obtain ⟨f1, f2, f3⟩ := int_first (rBegin l i) op (by omega)
      have hc35 : c ≠ 35 := by
        rintro rfl
        by_cases hh : ((rBegin l i).head? == some 45 && !op) = true
        · rw [hhead] at hh; simp at hh
        · rw [qInt_plain _ op (by simpa using hh) _ rfl] at hI
          cases hrr : rBegin l i with
          | nil => rw [hrr] at hhead; simp at hhead
          | cons a t =>
            rw [hrr] at hhead hI
            simp at hhead; subst hhead
            have hz : qRun 1 (35 :: t) = 0 := by rw [qRun, if_neg (by decide)]
            rw [hz, if_neg (by omega)] at hI
            omega
      unfold qCheck rInteger
      have hh35 : (l[i]? == some 35) = false := by rw [hc]; simpa using hc35
      by_cases hcan : qCanon ((l.drop i).take N) = true
      · have hl21 := canon_length hcan
        rw [List.length_take, List.length_drop] at hl21
        have hN21 : N ≤ 21 := by omega
        by_cases hst : qAt 6 l (i + N) = true
        · rw [if_pos (by simp [hst]), if_pos (by simp [hst])]
        · have hst' : qAt 6 l (i + N) = false := by simpa using hst
          rw [hst', hcan, hh35, if_neg (by simp), if_neg (by simp), if_neg (by omega), if_neg (by omega), if_neg (by simp; omega)]
      · rw [if_pos (by simp [hcan]), if_pos (by simp [hcan])]
  · rw [if_neg h2]
    unfold qCheck
    rw [if_neg (by simp [h2])]
    by_cases h35 : c = 35
    · subst h35
      have e35 : (l[i]? == some 35) = true := by rw [hc]; rfl
      rw [e35, Bool.true_and, Bool.true_and]
      have hN : (K = 0 ∧ N = 0) ∨ (K = 4 ∧ N = 2) := by
        rcases hk with ⟨h0, h1⟩ | ⟨hN, j, hj, hj1, hj2⟩
        · exact .inl ⟨h1, h0⟩
        · right
          cases hrr : rBegin l i with
          | nil => rw [hrr] at hhead; simp at hhead
          | cons a t =>
            rw [hrr] at hhead hj2
            simp at hhead; subst hhead
            have hpl : qPlain (35 :: t) = 0 := by
              unfold qPlain; rw [qGo_cons]
              have : qStep 35 0 0 false = none := by decide
              rw [this]
            have : j = 0 ∨ j = 1 ∨ j = 2 ∨ j = 3 ∨ j = 4 ∨ j = 5 := by omega
            rcases this with rfl | rfl | rfl | rfl | rfl | rfl
            · exfalso
              have h3 : qName (35 :: t) = N := hj2
              rw [qName_eq, hpl, if_neg (by unfold qualB; simp)] at h3; omega
            · exfalso
              have h3 : qInt (35 :: t) op = N := hj2
              have hz : qRun 1 (35 :: t) = 0 := by rw [qRun, if_neg (by decide)]
              rw [qInt_plain _ op (by simp) _ hz, if_neg (by omega)] at h3
              omega
            · exfalso
              have h3 : qKey (35 :: t) = N := hj2
              unfold qKey at h3; simp only [hpl] at h3; simp at h3; omega
            · refine ⟨hj1, ?_⟩
              have h3 : qHash (35 :: t) = N := hj2
              unfold qHash at h3
              split at h3 <;> omega
            · exfalso
              have h3 : qSign (35 :: t) = N := hj2
              unfold qSign at h3
              rw [if_neg (by cases t <;> simp [qTwo])] at h3
              simp [qOne] at h3; omega
            · exfalso
              have h3 : qPat (35 :: t) = N := hj2
              rw [qPat_0 _ (by simp)] at h3; omega
      rcases hN with ⟨rfl, rfl⟩ | ⟨rfl, rfl⟩
      · simp
      · simp
    · have e35 : (l[i]? == some 35) = false := by rw [hc]; simpa using h35
      simp only [e35, Bool.false_and, Bool.false_eq_true, if_false]
      rcases hk with ⟨rfl, rfl⟩ | ⟨hN, j, hj, hj1, hj2⟩
      · simp
      · rw [if_neg (show ¬ K = 0 by omega)]
        by_cases h40 : 40 < N
        · have hK5 : K ≠ 5 := by
            rintro rfl
            obtain rfl : j = 4 := by omega
            have h3 : qSign (rBegin l i) = N := hj2
            have : qSign (rBegin l i) ≤ 2 := by unfold qSign; split <;> (try split) <;> (try split) <;> omega
            omega
          rw [if_pos h40, if_pos ⟨hK5, h40⟩]
        · rw [if_neg h40, if_neg (by omega), if_neg (fun h => h40 h.2)]

/-- Where a name begins, the longest match. -/
theorem longest_name (r : Bs) (op : Bool) (h : 0 < qPlain r) : qLongest r op = if qColon (r.drop (qPlain r)) = true then (3, qPlain r + 1) else (1, qName r) := by
  have hnm := plain_top h
  obtain ⟨b, hb, hb2⟩ : ∃ b, r[0]? = some b ∧ (cSmall b.toNat = true ∨ cFront b.toNat = true) := by
    rcases hnm.front with hf | hf <;> obtain ⟨b, hb1, hb2⟩ := rIn_some hf
    · exact ⟨b, hb1, .inl hb2⟩
    · exact ⟨b, hb1, .inr hb2⟩
  have hqn := qName_plain r
  have hne : ∀ d : UInt8, cSmall d.toNat = false → cFront d.toNat = false → b ≠ d := by
    intro d h1 h2 e; subst e
    rcases hb2 with hb2 | hb2
    · rw [h1] at hb2; cases hb2
    · rw [h2] at hb2; cases hb2
  match r, hb with
  | [], hb => simp at hb
  | c :: t, hb =>
    simp at hb; subst hb
    have hI : qInt (c :: t) op = 0 := by
      have hz : qRun 1 (c :: t) = 0 := by
        rw [qRun, if_neg]
        intro hd
        have hd : cDigit c.toNat = true := hd
        rcases hb2 with hb2 | hb2
        · simp [cSmall, cDigit] at hb2 hd; omega
        · unfold cFront at hb2
          simp only [List.contains_cons, List.contains_nil, Bool.or_false, Bool.or_eq_true, beq_iff_eq] at hb2
          rcases hb2 with e | e | e | e | e <;> (rw [e] at hd; exact absurd hd (by decide))
      rw [qInt_plain _ op (by have := hne 45 (by decide) (by decide); simp [this]) _ hz, if_neg (by omega)]
    have hH : qHash (c :: t) = 0 := by
      unfold qHash; rw [if_neg]
      cases t with
      | nil => simp
      | cons d u => have := hne 35 (by decide) (by decide); simp [this]
    have hP : qPat (c :: t) = 0 := qPat_0 _ (by have := hne 63 (by decide) (by decide); simpa using this)
    have hS : qSign (c :: t) ≤ qName (c :: t) := by
      by_cases h2 : 2 ≤ qPlain (c :: t)
      · have : qSign (c :: t) ≤ 2 := by unfold qSign; split <;> (try split) <;> (try split) <;> omega
        omega
      · have hq1 : qPlain (c :: t) = 1 := by omega
        rw [hq1] at hnm
        have hsm : cSmall c.toNat = true := by
          obtain ⟨k, _, hk, hk2⟩ := hnm.letter
          obtain rfl : k = 0 := by omega
          exact hk2
        have hl : ∀ d : UInt8, cSmall d.toNat = false → c ≠ d := fun d h1 e => by subst e; rw [h1] at hsm; cases hsm
        unfold qSign
        rw [if_neg]
        · simp; split <;> omega
        · cases t with
          | nil => simp [qTwo]
          | cons d u =>
            have a := hl 58 (by decide)
            have b := hl 61 (by decide)
            have c2 := hl 60 (by decide)
            have d2 := hl 62 (by decide)
            simp [qTwo, a, b, c2, d2]
    unfold qLongest
    have e1 : qBetter (0, 0) 1 (qName (c :: t)) = (1, qName (c :: t)) := if_pos (by simp only; omega)
    rw [e1, hI, hH, hP, better_no (p := (1, qName (c :: t))) (n := 0) (by omega)]
    by_cases hk : qColon ((c :: t).drop (qPlain (c :: t))) = true
    · have hkey : qKey (c :: t) = qPlain (c :: t) + 1 := by
        unfold qKey; simp only; rw [if_pos (by simp [h, hk])]
      have hqe : qName (c :: t) = qPlain (c :: t) := by
        rw [qName_eq, if_neg]
        unfold qualB
        have h58 : (c :: t)[qPlain (c :: t)]? = some 58 := by
          unfold qColon at hk
          simp only [Bool.and_eq_true] at hk
          have := hk.1.1
          rw [List.head?_eq_getElem?, List.getElem?_drop] at this
          simpa using this
        rw [h58]; simp
      rw [hkey, if_pos hk, hqe]
      have : qBetter (1, qPlain (c :: t)) 3 (qPlain (c :: t) + 1) = (3, qPlain (c :: t) + 1) := if_pos (by simp only; omega)
      rw [this, better_no (p := (3, qPlain (c :: t) + 1)) (n := 0) (by omega), better_no (p := (3, qPlain (c :: t) + 1)) (n := qSign (c :: t)) (by simp only; omega), better_no (p := (3, qPlain (c :: t) + 1)) (n := 0) (by omega)]
    · have hkey : qKey (c :: t) = 0 := by
        unfold qKey; simp only; rw [if_neg (by simp [hk])]
      rw [hkey, if_neg hk, better_no (p := (1, qName (c :: t))) (n := 0) (by omega), better_no (p := (1, qName (c :: t))) (n := 0) (by omega), better_no (p := (1, qName (c :: t))) (n := qSign (c :: t)) hS, better_no (p := (1, qName (c :: t))) (n := 0) (by omega)]

/-- **A token, by the best rule.** -/
theorem piece_tok (l : Bs) (i : Nat) (op : Bool) (hi : i < l.length) (hc : qComment (l.drop i) = (0, 0)) (hb : qRun 7 (l.drop i) = 0) :
    qNext l i op = if rErr l i (rBest l i op) ≠ 0 then ⟨rErr l i (rBest l i op), 0, 0⟩ else ⟨0, (rBest l i op).1, (rBest l i op).2⟩ := by
  rw [qNext_c op (by rw [hc]) (by rw [hc]; simp) (by omega)]
  show (if qCheck l i (qLongest (rBegin l i) op).1 (qLongest (rBegin l i) op).2 ≠ 0 then _ else _) = _
  have hle := qLongest_le (rBegin l i) op
  have hbl : (rBegin l i).length = min 100 (l.length - i) := by unfold rBegin; rw [List.length_take, List.length_drop]
  obtain ⟨K, N, hKN⟩ : ∃ K N, qLongest (rBegin l i) op = (K, N) := ⟨_, _, rfl⟩
  have hck := check_noname l i op hi K N hKN (by rw [hKN] at hle; simp only at hle; omega)
  have hfin : rBest l i op = (K, N) → (if qCheck l i (qLongest (rBegin l i) op).1 (qLongest (rBegin l i) op).2 ≠ 0 then (⟨qCheck l i (qLongest (rBegin l i) op).1 (qLongest (rBegin l i) op).2, 0, 0⟩ : Cutted) else ⟨0, (qLongest (rBegin l i) op).1, (qLongest (rBegin l i) op).2⟩) = if rErr l i (rBest l i op) ≠ 0 then ⟨rErr l i (rBest l i op), 0, 0⟩ else ⟨0, (rBest l i op).1, (rBest l i op).2⟩ := by
    intro h
    rw [h, hKN]
    simp only
    rw [hck]
  by_cases hp : 0 < qPlain (rBegin l i)
  · have hbn := best_name l i op hp
    have hln := longest_name (rBegin l i) op hp
    by_cases h99 : qPlain (rBegin l i) + 1 < 100
    · apply hfin
      rw [hbn, ← hKN, hln]
      have : (((rBegin l i)[qPlain (rBegin l i)]? = some 58 ∧ rColon l (i + qPlain (rBegin l i)) = false)) ↔ qColon ((rBegin l i).drop (qPlain (rBegin l i))) = true := by
        unfold qColon rColon
        rw [List.head?_eq_getElem?, List.getElem?_drop, List.getElem?_drop, Nat.add_zero, show i + qPlain (rBegin l i) + 1 = i + (qPlain (rBegin l i) + 1) from rfl, ← rBegin_get l i (qPlain (rBegin l i) + 1) h99]
        simp only [Bool.and_eq_true, beq_iff_eq, Bool.not_eq_true', beq_eq_false_iff_ne, ne_eq, Bool.or_eq_false_iff]
        exact ⟨fun h => ⟨⟨h.1, h.2.1⟩, h.2.2⟩, fun h => ⟨h.1.1, h.1.2, h.2⟩⟩
      by_cases hx : qColon ((rBegin l i).drop (qPlain (rBegin l i))) = true
      · rw [if_pos hx, if_pos (this.2 hx)]
      · rw [if_neg hx, if_neg (fun h => hx (this.1 h))]
    · have hqn := qName_plain (rBegin l i)
      have hfirst : (l[i]? == some 35) = false := by
        have hf := (plain_top hp).front
        rw [← Nat.add_zero i, ← rBegin_get l i 0 (by omega)]
        rcases hf with hf | hf <;> obtain ⟨b, hb1, hb2⟩ := rIn_some hf <;> rw [hb1]
        · have : b ≠ 35 := fun e => by subst e; exact absurd hb2 (by decide)
          simpa using this
        · have : b ≠ 35 := fun e => by subst e; exact absurd hb2 (by decide)
          simpa using this
      have hbig : ∀ k n : Nat, (k = 1 ∨ k = 3) → 40 < n → rErr l i (k, n) = 2 := by
        intro k n hk hn
        unfold rErr
        simp only
        rw [if_neg (by omega), hfirst, if_neg (by simp), if_neg (by omega), if_pos ⟨by omega, hn⟩]
      have e1 : rErr l i (rBest l i op) = 2 := by
        rw [hbn]; split
        · exact hbig _ _ (.inr rfl) (by omega)
        · exact hbig _ _ (.inl rfl) (by omega)
      have e2 : rErr l i (K, N) = 2 := by
        rw [← hKN, hln]; split
        · exact hbig _ _ (.inr rfl) (by omega)
        · exact hbig _ _ (.inl rfl) (by omega)
      rw [e1, if_pos (show (2 : Nat) ≠ 0 by omega), hKN]
      simp only
      rw [hck, e2, if_pos (by omega)]
      show (⟨qCheck l i (qLongest (rBegin l i) op).1 (qLongest (rBegin l i) op).2, 0, 0⟩ : Cutted) = _
      rw [hKN]
      simp only
      rw [hck, e2]
  · apply hfin
    rw [best_noname l i op (by omega), hKN]
end Go.Proofs.YtopbmndjnjnmcaaGreatDoor

namespace Go.Proofs.YtopbmndjnjnmcaaGreatDoor
open Go.RowKit Lx

/-- Whether a byte is a digit. -/
def isD (c : UInt8) : Bool := decide (48 ≤ c.toNat) && decide (c.toNat ≤ 57)
/-- What digits spell. -/
def dVal : Bs → Nat → Nat
  | [], a => a
  | c :: t, a => dVal t (a * 10 + (c.toNat - 48))

theorem isD_iff {c : UInt8} : isD c = true ↔ 48 ≤ c.toNat ∧ c.toNat ≤ 57 := by simp [isD]
theorem dVal_append : ∀ (l r : Bs) (a : Nat), dVal (l ++ r) a = dVal r (dVal l a)
  | [], _, _ => rfl
  | _ :: t, r, _ => dVal_append t r _
theorem dVal_low : ∀ (l : Bs) (a : Nat), a * 10 ^ l.length ≤ dVal l a
  | [], a => by simp [dVal]
  | c :: t, a => by
    have h := dVal_low t (a * 10 + (c.toNat - 48))
    have h2 : a * 10 * 10 ^ t.length ≤ (a * 10 + (c.toNat - 48)) * 10 ^ t.length := Nat.mul_le_mul_right _ (by omega)
    rw [List.length_cons, Nat.pow_succ, Nat.mul_comm (10 ^ t.length) 10, ← Nat.mul_assoc]
    exact Nat.le_trans h2 h
theorem dVal_high : ∀ (l : Bs) (a : Nat), (∀ c ∈ l, isD c = true) → dVal l a < (a + 1) * 10 ^ l.length
  | [], a, _ => by simp [dVal]
  | c :: t, a, h => by
    have hc := isD_iff.1 (h c (by simp))
    have h1 := dVal_high t (a * 10 + (c.toNat - 48)) (fun x hx => h x (by simp [hx]))
    have h2 : (a * 10 + (c.toNat - 48) + 1) * 10 ^ t.length ≤ ((a + 1) * 10) * 10 ^ t.length := Nat.mul_le_mul_right _ (by omega)
    rw [List.length_cons, Nat.pow_succ, Nat.mul_comm (10 ^ t.length) 10, ← Nat.mul_assoc]
    exact Nat.lt_of_lt_of_le h1 h2
theorem dVal_mono (l : Bs) (a : Nat) : a ≤ dVal l a := by
  have h := dVal_low l a
  have : a * 1 ≤ a * 10 ^ l.length := Nat.mul_le_mul_left _ (Nat.pow_pos (by omega))
  omega
theorem parse_val : ∀ (l : Bs) (a : Nat), (∀ c ∈ l, isD c = true) → dVal l a < 18446744073709551616 → Lib.parseUint10 a l = .ok (dVal l a)
  | [], a, _, _ => rfl
  | c :: t, a, h, hv => by
    have hc := isD_iff.1 (h c (by simp))
    have hm := dVal_mono t (a * 10 + (c.toNat - 48))
    simp only [dVal] at hv
    simp only [Lib.parseUint10]
    rw [if_pos hc, if_neg (by omega), if_neg (by omega)]
    exact parse_val t _ (fun x hx => h x (by simp [hx])) hv
theorem dec_val (n : Nat) : ∀ l : Bs, l.length = n → l ≠ [] → (∀ c ∈ l, isD c = true) → (l.head? = some 48 → l.length = 1) → Lib.decDigits (dVal l 0) = l := by
  induction n with
  | zero => intro l hl h; exact absurd (List.length_eq_zero_iff.1 hl) h
  | succ n ih =>
    intro l hl hne hd h0
    have hsp := List.dropLast_concat_getLast hne
    obtain ⟨p, hp⟩ : ∃ p, l.dropLast = p := ⟨_, rfl⟩
    obtain ⟨c, hc⟩ : ∃ c, l.getLast hne = c := ⟨_, rfl⟩
    rw [hp, hc] at hsp
    have hcd := isD_iff.1 (hd c (by rw [← hsp]; simp))
    have hpd : ∀ x ∈ p, isD x = true := fun x hx => hd x (by rw [← hsp]; simp [hx])
    have hpl : p.length = n := by have := congrArg List.length hsp; simp at this; omega
    have hv : dVal l 0 = dVal p 0 * 10 + (c.toNat - 48) := by rw [← hsp, dVal_append]; rfl
    have hcc : UInt8.ofNat (48 + (c.toNat - 48)) = c := by
      rw [show 48 + (c.toNat - 48) = c.toNat from by omega]; exact UInt8.ofNat_toNat
    rw [hv, Lib.decDigits]
    match p, hsp, hpd, hpl with
    | [], hsp, hpd, hpl =>
      have h10 : dVal ([] : Bs) 0 * 10 + (c.toNat - 48) < 10 := by simp [dVal]; omega
      rw [dif_pos h10]
      rw [← hsp]
      simp only [dVal, Nat.zero_mul, Nat.zero_add, List.nil_append]
      rw [hcc]
    | x :: t, hsp, hpd, hpl =>
      have hx : x ≠ 48 := by
        rintro rfl
        have := h0 (by rw [← hsp]; rfl)
        rw [hl] at this
        simp at hpl
        omega
      have hx2 := isD_iff.1 (hpd x (by simp))
      have hx3 : x.toNat ≠ 48 := fun e => hx (UInt8.toNat_inj.1 (by rw [e]; rfl))
      have hpos : 1 ≤ dVal (x :: t) 0 := by
        have := dVal_mono t (0 * 10 + (x.toNat - 48))
        simp only [dVal]; omega
      rw [dif_neg (by omega), show (dVal (x :: t) 0 * 10 + (c.toNat - 48)) / 10 = dVal (x :: t) 0 from by omega, show (dVal (x :: t) 0 * 10 + (c.toNat - 48)) % 10 = c.toNat - 48 from by omega, hcc]
      rw [ih (x :: t) hpl (by simp) hpd (fun e => absurd (by simpa using e) hx)]
      exact hsp
theorem less_val : ∀ (x y : Bs) (a : Nat), x.length = y.length → (∀ c ∈ x, isD c = true) → (∀ c ∈ y, isD c = true) → (Op.bytesLess x y || x == y) = decide (dVal x a ≤ dVal y a)
  | [], [], _, _, _, _ => by simp [dVal]
  | p :: x, q :: y, a, h, hx, hy => by
    have hp := isD_iff.1 (hx p (by simp))
    have hq := isD_iff.1 (hy q (by simp))
    have hx' : ∀ c ∈ x, isD c = true := fun c hc => hx c (by simp [hc])
    have hy' : ∀ c ∈ y, isD c = true := fun c hc => hy c (by simp [hc])
    have hl : x.length = y.length := by simpa using h
    simp only [dVal, Op.bytesLess]
    by_cases e : p = q
    · subst e
      have ih := less_val x y (a * 10 + (p.toNat - 48)) hl hx' hy'
      refine Eq.trans ?_ ih
      simp [UInt8.lt_irrefl]
    · have e1 : (p == q) = false := by simpa using e
      have e2 : (p :: x == q :: y) = false := by simp [e]
      have ne : p.toNat ≠ q.toNat := fun h => e (UInt8.toNat_inj.1 h)
      rw [e1, e2, Bool.false_and, Bool.or_false, Bool.or_false]
      refine decide_eq_decide.2 ?_
      by_cases lt : p.toNat < q.toNat
      · have h1 := dVal_high x (a * 10 + (p.toNat - 48)) hx'
        have h2 := dVal_low y (a * 10 + (q.toNat - 48))
        have h3 : (a * 10 + (p.toNat - 48) + 1) * 10 ^ y.length ≤ (a * 10 + (q.toNat - 48)) * 10 ^ y.length := Nat.mul_le_mul_right _ (by omega)
        rw [hl] at h1
        exact ⟨fun _ => by omega, fun _ => UInt8.lt_iff_toNat_lt.2 lt⟩
      · have h1 := dVal_high y (a * 10 + (q.toNat - 48)) hy'
        have h2 := dVal_low x (a * 10 + (p.toNat - 48))
        have h3 : (a * 10 + (q.toNat - 48) + 1) * 10 ^ x.length ≤ (a * 10 + (p.toNat - 48)) * 10 ^ x.length := Nat.mul_le_mul_right _ (by omega)
        rw [← hl] at h1
        exact ⟨fun h => absurd (UInt8.lt_iff_toNat_lt.1 h) lt, fun h => by omega⟩

/-- The digits of the greatest integers. -/
def dMost (neg : Bool) : Bs := if neg then [57, 50, 50, 51, 51, 55, 50, 48, 51, 54, 56, 53, 52, 55, 55, 53, 56, 48, 56] else [57, 50, 50, 51, 51, 55, 50, 48, 51, 54, 56, 53, 52, 55, 55, 53, 56, 48, 55]
theorem dMost_val (neg : Bool) : (dMost neg).length = 19 ∧ (∀ c ∈ dMost neg, isD c = true) ∧ dVal (dMost neg) 0 = if neg then 9223372036854775808 else 9223372036854775807 := by
  cases neg <;> exact ⟨rfl, by decide, by decide⟩
def dNeg (l : Bs) : Bool := l.head? == some 45
def dBody (l : Bs) : Bs := if dNeg l then l.drop 1 else l
/-- Whether the tests ahead of reckoning turn a text down. -/
def dBad (l d : Bs) (neg : Bool) : Bool := (d.length == 0) || decide (19 < d.length) || ((d.length == 19) && !(Op.bytesLess d (dMost neg) || d == dMost neg)) || ((d.head? == some 48) && !(l == [48]))
def dSign (neg : Bool) : Int := if neg then -1 else 1

theorem bound_val {d : Bs} {neg : Bool} (h : d.length ≤ 19) (hd : ∀ c ∈ d, isD c = true) (hm : d.length = 19 → (Op.bytesLess d (dMost neg) || d == dMost neg) = true) : dVal d 0 ≤ if neg then 9223372036854775808 else 9223372036854775807 := by
  obtain ⟨m1, m2, m3⟩ := dMost_val neg
  by_cases h19 : d.length = 19
  · have h1 := hm h19
    rw [less_val d (dMost neg) 0 (by omega) hd m2, m3] at h1
    exact of_decide_eq_true h1
  · have h1 := dVal_high d 0 hd
    have h2 : (10 : Nat) ^ d.length ≤ 10 ^ 18 := Nat.pow_le_pow_right (by omega) (by omega)
    have h3 : (10 : Nat) ^ 18 = 1000000000000000000 := by decide
    split <;> omega
/-- **A number, by its digits.** -/
theorem canon_good (l : Bs) (hb : dBad l (dBody l) (dNeg l) = false) (hd : ∀ c ∈ dBody l, isD c = true) : qCanon l = true ∧ qNum l = dSign (dNeg l) * (dVal (dBody l) 0 : Int) := by
  unfold dBad at hb
  simp only [Bool.or_eq_false_iff, Bool.and_eq_false_iff, beq_eq_false_iff_ne, ne_eq, decide_eq_false_iff_not, Bool.not_eq_false', Nat.not_lt] at hb
  obtain ⟨⟨⟨b1, b2⟩, b3⟩, b4⟩ := hb
  have hne : dBody l ≠ [] := fun e => b1 (by rw [e]; rfl)
  have hle := bound_val (neg := dNeg l) b2 hd (fun h => b3.resolve_left (fun n => n h))
  have hlt : dVal (dBody l) 0 < 18446744073709551616 := by split at hle <;> omega
  have hmag : Lib.parseMag (dBody l) = .ok (dVal (dBody l) 0) := by
    unfold Lib.parseMag; rw [if_neg hne]; exact parse_val _ _ hd hlt
  cases hn : dNeg l with
  | true =>
    rw [hn] at hle
    have hl : l = 45 :: dBody l := by
      unfold dBody; rw [hn]
      unfold dNeg at hn
      match l, hn with
      | a :: t, hn => simp at hn; subst hn; rfl
    have h48 : (dBody l).head? ≠ some 48 := fun e => by
      rcases b4 with h | h
      · exact h e
      · have h := eq_of_beq h; rw [h] at hl; cases hl
    have hdec := dec_val _ (dBody l) rfl hne hd (fun e => absurd e h48)
    have hpos : 1 ≤ dVal (dBody l) 0 := by
      cases hz : dVal (dBody l) 0 with
      | zero => rw [hz, Lib.decDigits, dif_pos (by omega)] at hdec; exact absurd (by rw [← hdec]; rfl) h48
      | succ n => omega
    have hat : Lib.atoiAll l = .ok (-(dVal (dBody l) 0 : Int)) := by
      rw [hl, Lib.atoiAll_minus]
      have e : dBody (45 :: dBody l) = dBody l := rfl
      rw [e, hmag]
      simp only [Lib.signed]
      simp at hle
      rw [if_neg (by omega)]
    unfold qCanon qNum
    rw [hat]
    refine ⟨?_, by simp [dSign]⟩
    simp only [Lib.itoa]
    rw [if_pos (by omega), show (-(dVal (dBody l) 0 : Int)).natAbs = dVal (dBody l) 0 from by omega, hdec, ← hl]
    simp
  | false =>
    rw [hn] at hle
    have hl : dBody l = l := by unfold dBody; rw [hn]; rfl
    rw [hl] at hmag hd hne hlt hle b4 ⊢
    have hdec := dec_val _ l rfl hne hd (fun e => by
      rcases b4 with h | h
      · exact absurd e h
      · have h := eq_of_beq h; rw [h]; rfl)
    have hat : Lib.atoiAll l = .ok (dVal l 0 : Int) := by
      match l, hne, hd, hmag, hle with
      | c :: t, _, hd, hmag, hle =>
        have hc := isD_iff.1 (hd c (by simp))
        rw [Lib.atoiAll_plain c t (by omega) (by omega), hmag]
        simp only [Lib.signless]
        simp at hle
        rw [if_neg (by omega)]
    unfold qCanon qNum
    rw [hat]
    refine ⟨?_, by simp [dSign]⟩
    simp only [Lib.itoa]
    rw [if_neg (by omega), Int.toNat_natCast, hdec]
    simp
theorem val_dec (u : Nat) : dVal (Lib.decDigits u) 0 = u := by
  induction u using Nat.strongRecOn with
  | _ u ih =>
    rw [Lib.decDigits]
    split
    · rename_i h
      simp only [dVal, dgt u h]; omega
    · rename_i h
      rw [dVal_append, ih (u / 10) (by omega)]
      simp only [dVal, dgt _ (Nat.mod_lt u (show 0 < 10 by omega))]; omega
theorem ndig_le : ∀ (m u : Nat), u < 10 ^ m → 1 ≤ u → Lib.nDigits u ≤ m
| 0, u, h, h1 => by simp at h; omega
| m + 1, u, h, h1 => by
  by_cases h10 : u < 10
  · rw [Lib.nDigits_small h10]; omega
  · rw [Lib.nDigits_big h10]
    have := ndig_le m (u / 10) (by rw [Nat.pow_succ] at h; omega) (by omega)
    omega
theorem dec_head (u : Nat) (h : (Lib.decDigits u).head? = some 48) : u = 0 := by
  have hd : ∀ c ∈ Lib.decDigits u, isD c = true := fun c hc => isD_iff.2 (dec_digits u c hc)
  have hl := Lib.decDigits_length u
  have hv := val_dec u
  match hm : Lib.decDigits u, h with
  | c :: t, h =>
    simp at h; subst h
    rw [hm] at hd hl hv
    have h1 := dVal_high t 0 (fun x hx => hd x (by simp [hx]))
    simp only [dVal] at hv
    have hv' : dVal t 0 = u := hv
    rw [hv'] at h1
    have hn : t.length + 1 = Lib.nDigits u := by simpa using hl
    cases u with
    | zero => rfl
    | succ k =>
      exfalso
      have h2 : Lib.nDigits (k + 1) ≤ t.length := by
        clear hv hv' hl hd hm
        clear hn
        revert h1
        rw [Nat.zero_add, Nat.one_mul]
        intro h1
        exact ndig_le _ _ h1 (by omega)
      omega
/-- What is turned down is no number's text. -/
theorem canon_bad (l : Bs) (hq : qCanon l = true) : dBad l (dBody l) (dNeg l) = false ∧ ∀ c ∈ dBody l, isD c = true := by
  unfold qCanon at hq
  split at hq
  · rename_i n hn
    have hb := atoi_bounds l n hn
    have hl : Lib.itoa n = l := eq_of_beq hq
    have key : ∀ u : Nat, dBody l = Lib.decDigits u → (u ≤ if dNeg l then 9223372036854775808 else 9223372036854775807) → (u = 0 → l = [48]) → dBad l (dBody l) (dNeg l) = false ∧ ∀ c ∈ dBody l, isD c = true := by
      intro u hu hle h0
      have hd : ∀ c ∈ dBody l, isD c = true := fun c hc => isD_iff.2 (dec_digits u c (by rw [← hu]; exact hc))
      refine ⟨?_, hd⟩
      have hne : dBody l ≠ [] := by rw [hu]; exact dec_ne u
      have hlen : (dBody l).length ≤ 19 := by
        rw [hu, Lib.decDigits_length]
        by_cases h : 1 ≤ u
        · exact ndig_le 19 u (by split at hle <;> (have : (10 : Nat) ^ 19 = 10000000000000000000 := by decide) <;> omega) h
        · rw [Lib.nDigits_small (by omega)]; omega
      obtain ⟨m1, m2, m3⟩ := dMost_val (dNeg l)
      unfold dBad
      simp only [Bool.or_eq_false_iff, Bool.and_eq_false_iff, beq_eq_false_iff_ne, ne_eq, decide_eq_false_iff_not, Bool.not_eq_false', Nat.not_lt]
      refine ⟨⟨⟨fun e => hne (List.length_eq_zero_iff.1 e), hlen⟩, ?_⟩, ?_⟩
      · by_cases h19 : (dBody l).length = 19
        · right
          rw [less_val (dBody l) (dMost (dNeg l)) 0 (by omega) hd m2, m3, hu, val_dec]
          exact decide_eq_true hle
        · exact .inl h19
      · by_cases h48 : (dBody l).head? = some 48
        · right
          rw [h0 (dec_head u (by rw [← hu]; exact h48))]; rfl
        · exact .inl h48
    unfold Lib.itoa at hl
    split at hl
    · rename_i hneg
      have hN : dNeg l = true := by rw [← hl]; rfl
      have hB : dBody l = Lib.decDigits n.natAbs := by unfold dBody; rw [hN, ← hl]; rfl
      exact key n.natAbs hB (by rw [hN]; simp; omega) (fun h => by omega)
    · rename_i hneg
      have hN : dNeg l = false := by
        unfold dNeg
        rw [← hl]
        cases hm : Lib.decDigits n.toNat with
        | nil => rfl
        | cons c t =>
          have := dec_digits n.toNat c (by rw [hm]; simp)
          simp only [List.head?_cons]
          rw [beq_eq_false_iff_ne]
          intro e
          injection e with e; subst e
          exact absurd this.1 (by decide)
      have hB : dBody l = Lib.decDigits n.toNat := by unfold dBody; rw [hN, ← hl]; rfl
      exact key n.toNat hB (by rw [hN]; simp; omega) (fun h => by rw [← hl, h, Lib.decDigits, dif_pos (by omega)]; rfl)
  · cases hq
end Go.Proofs.YtopbmndjnjnmcaaGreatDoor

