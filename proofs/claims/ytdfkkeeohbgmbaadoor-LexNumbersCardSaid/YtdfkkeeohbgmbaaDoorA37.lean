/- Package lex: the text of an integer. -/
import Derived.Test.YtdfkkeeohbgmbaaDoorA36
import Derived.Lib.ItoaLen
namespace Go.Proofs.YtdfkkeeohbgmbaaDoor
open Go.RowKit Lx

theorem parse_snoc : ∀ (l : Bs) (acc u : Nat) (c : UInt8), Lib.parseUint10 acc l = .ok u → 48 ≤ c.toNat → c.toNat ≤ 57 → u < 1844674407370955162 → u * 10 + (c.toNat - 48) < 18446744073709551616 → Lib.parseUint10 acc (l ++ [c]) = .ok (u * 10 + (c.toNat - 48))
  | [], acc, u, c, h, h1, h2, h3, h4 => by
    simp only [Lib.parseUint10] at h
    injection h with h; subst h
    simp only [List.nil_append, Lib.parseUint10]
    rw [if_pos ⟨h1, h2⟩, if_neg (by omega), if_neg (by omega)]
  | a :: r, acc, u, c, h, h1, h2, h3, h4 => by
    simp only [List.cons_append, Lib.parseUint10] at h ⊢
    split at h
    · rename_i ha
      rw [if_pos ha]
      split at h
      · cases h
      · rename_i hb
        rw [if_neg hb]
        split at h
        · cases h
        · rename_i hd
          rw [if_neg hd]
          exact parse_snoc r _ u c h h1 h2 h3 h4
    · cases h

theorem dgt (d : Nat) (h : d < 10) : (UInt8.ofNat (48 + d)).toNat = 48 + d := by
  simp [UInt8.toNat_ofNat']; omega

theorem parse_dec (u : Nat) : u < 18446744073709551616 → Lib.parseUint10 0 (Lib.decDigits u) = .ok u := by
  induction u using Nat.strongRecOn with
  | _ u ih =>
    intro hu
    rw [Lib.decDigits]
    split
    · rename_i h
      simp only [Lib.parseUint10, dgt u h]
      rw [if_pos (by omega), if_neg (by omega), if_neg (by omega)]
      congr 1; omega
    · rename_i h
      have hd := dgt (u % 10) (Nat.mod_lt _ (by omega))
      have := parse_snoc (Lib.decDigits (u / 10)) 0 (u / 10) (UInt8.ofNat (48 + u % 10)) (ih (u / 10) (by omega) (by omega)) (by omega) (by omega) (by omega) (by omega)
      rw [this]; congr 1; omega

theorem dec_digits (u : Nat) : ∀ c ∈ Lib.decDigits u, 48 ≤ c.toNat ∧ c.toNat ≤ 57 := by
  induction u using Nat.strongRecOn with
  | _ u ih =>
    intro c hc
    rw [Lib.decDigits] at hc
    split at hc
    · rename_i h
      simp only [List.mem_singleton] at hc
      subst hc; rw [dgt u h]; omega
    · rename_i h
      rw [List.mem_append] at hc
      rcases hc with hc | hc
      · exact ih (u / 10) (by omega) c hc
      · simp only [List.mem_singleton] at hc
        subst hc; rw [dgt _ (Nat.mod_lt _ (by omega))]; omega

theorem dec_ne (u : Nat) : Lib.decDigits u ≠ [] := by
  intro h
  have h1 := Lib.decDigits_length u
  have h2 := Lib.nDigits_pos u
  rw [h] at h1; simp at h1; omega

theorem dec_cons (u : Nat) : ∃ c t, Lib.decDigits u = c :: t ∧ 48 ≤ c.toNat ∧ c.toNat ≤ 57 := by
  cases h : Lib.decDigits u with
  | nil => exact absurd h (dec_ne u)
  | cons c t => exact ⟨c, t, rfl, dec_digits u c (by rw [h]; simp)⟩

theorem parseMag_dec (u : Nat) (hu : u < 18446744073709551616) : Lib.parseMag (Lib.decDigits u) = .ok u := by
  unfold Lib.parseMag; rw [if_neg (dec_ne u)]; exact parse_dec u hu

/-- Atoi undoes Itoa. -/
theorem atoi_itoa (n : Int) (h0 : -9223372036854775808 ≤ n) (h1 : n ≤ 9223372036854775807) : Lib.atoiAll (Lib.itoa n) = .ok n := by
  unfold Lib.itoa
  split
  · rename_i hn
    unfold Lib.atoiAll
    simp only
    rw [if_pos (by decide)]
    rw [parseMag_dec n.natAbs (by omega)]
    simp only
    rw [if_neg (by rintro ⟨h, _⟩; exact h (by decide)), if_neg (by omega), if_pos (by decide)]
    congr 1; omega
  · rename_i hn
    obtain ⟨c, t, hd, c1, c2⟩ := dec_cons n.toNat
    have hp := parseMag_dec n.toNat (by omega)
    rw [hd] at hp ⊢
    unfold Lib.atoiAll
    simp only
    rw [if_neg (by omega), hp]
    simp only
    rw [if_neg (by omega), if_neg (by omega), if_neg (by omega)]
    congr 1; omega

theorem qCanon_itoa (n : Int) (h0 : -9223372036854775808 ≤ n) (h1 : n ≤ 9223372036854775807) : qCanon (Lib.itoa n) = true := by
  unfold qCanon; rw [atoi_itoa n h0 h1]; simp

theorem qNum_itoa (n : Int) (h0 : -9223372036854775808 ≤ n) (h1 : n ≤ 9223372036854775807) : qNum (Lib.itoa n) = n := by
  unfold qNum; rw [atoi_itoa n h0 h1]

theorem qRun_digits : ∀ (l : Bs), (∀ c ∈ l, 48 ≤ c.toNat ∧ c.toNat ≤ 57) → qRun 1 l = l.length
  | [], _ => rfl
  | a :: t, h => by
    have ha := h a (by simp)
    have := qRun_digits t (fun c hc => h c (by simp [hc]))
    rw [qRun, if_pos (by simp [qCls, cDigit]; omega), this]; rfl

theorem not_front (c : UInt8) (h : 48 ≤ c.toNat ∧ c.toNat ≤ 57) : cSmall c.toNat = false ∧ cFront c.toNat = false := by
  constructor
  · simp [cSmall]; omega
  · simp [cFront]; omega

theorem plain_digit (c : UInt8) (t : Bs) (h : 48 ≤ c.toNat ∧ c.toNat ≤ 57) : qPlain (c :: t) = 0 := by
  unfold qPlain; rw [qGo_cons]
  have : qStep c 0 0 false = none := by
    unfold qStep; rw [(not_front c h).1, (not_front c h).2]; simp
  rw [this]

theorem u8_ne (c : UInt8) (d : UInt8) (h : c.toNat ≠ d.toNat) : (c == d) = false := by
  simp only [beq_eq_false_iff_ne]; intro e; subst e; exact h rfl

theorem better_no {p : Nat × Nat} {k n : Nat} (h : n ≤ p.2) : qBetter p k n = p := if_neg (by omega)
theorem longest_two {l : Bs} {op : Bool} {n : Nat} (h1 : qName l = 0) (h2 : qInt l op = n) (hn : 0 < n) (h3 : qKey l ≤ n) (h4 : qHash l ≤ n) (h5 : qSign l ≤ n) (h6 : qPat l ≤ n) : qLongest l op = (2, n) := by
  unfold qLongest
  have e1 : qBetter (qBetter (0, 0) 1 (qName l)) 2 (qInt l op) = (2, n) := by
    rw [h1, h2, better_no (p := (0, 0)) (Nat.le_refl 0)]; exact if_pos hn
  rw [e1, better_no (p := (2, n)) h3, better_no (p := (2, n)) h4, better_no (p := (2, n)) h5, better_no (p := (2, n)) h6]

/-- The rules at the text of an integer. -/
theorem longest_itoa (n : Int) : qLongest (Lib.itoa n) false = (2, (Lib.itoa n).length) ∧ qComment (Lib.itoa n) = (0, 0) ∧ qRun 7 (Lib.itoa n) = 0 ∧ ((Lib.itoa n)[0]? == some 35) = false ∧ 1 ≤ (Lib.itoa n).length := by
  unfold Lib.itoa
  split
  · rename_i hn
    obtain ⟨c, t, hd, c1, c2⟩ := dec_cons n.natAbs
    have hdg := dec_digits n.natAbs
    rw [hd] at hdg ⊢
    have hr : qRun 1 (c :: t) = t.length + 1 := qRun_digits _ hdg
    have h2 : qInt (45 :: c :: t) false = t.length + 2 := by
      rw [qInt_minus (45 :: c :: t) false (by simp) (t.length + 1) hr, if_pos (by omega)]; omega
    have h4 : qHash (45 :: c :: t) = 0 := by unfold qHash; rw [if_neg (by simp)]
    have h5 : qSign (45 :: c :: t) ≤ 1 := by
      unfold qSign; rw [if_neg (by simp [qTwo])]; simp; split <;> omega
    have h6 : qPat (45 :: c :: t) = 0 := qPat_0 _ (by simp)
    refine ⟨?_, by unfold qComment; rw [if_neg (by simp), if_neg (by simp)], by rw [qRun, if_neg (by decide)], by simp, by simp⟩
    exact longest_two (name_minus _) h2 (by simp) (by rw [key_minus]; omega) (by omega) (by simp only [List.length_cons]; omega) (by omega)
  · rename_i hn
    obtain ⟨c, t, hd, c1, c2⟩ := dec_cons n.toNat
    have hdg := dec_digits n.toNat
    rw [hd] at hdg ⊢
    have hr : qRun 1 (c :: t) = t.length + 1 := qRun_digits _ hdg
    have hne : ∀ d : UInt8, (d.toNat < 48 ∨ 57 < d.toNat) → (c == d) = false := fun d h => u8_ne c d (by omega)
    have hp := plain_digit c t ⟨c1, c2⟩
    have h1 : qName (c :: t) = 0 := by unfold qName; simp only [hp]; simp
    have h3 : qKey (c :: t) = 0 := by unfold qKey; simp only [hp]; simp
    have h2 : qInt (c :: t) false = t.length + 1 := by
      rw [qInt_plain _ false (by simp [hne 45 (by decide)]) (t.length + 1) hr]; simp
    have hl2 : ∀ (a b : UInt8), (a.toNat < 48 ∨ 57 < a.toNat) → ((c :: t).take 2 == [a, b]) = false := by
      intro a b ha
      cases t with
      | nil => simp
      | cons x y =>
        have := hne a ha
        simp only [beq_eq_false_iff_ne] at this
        simp [this]
    have h4 : qHash (c :: t) = 0 := by unfold qHash; rw [hl2 35 116 (by decide), hl2 35 102 (by decide)]; rfl
    have h5 : qSign (c :: t) = 0 := by
      unfold qSign
      have e1 : qTwo.contains ((c :: t).take 2) = false := by
        simp only [qTwo, List.contains_cons, List.contains_nil, Bool.or_false]
        rw [hl2 58 61 (by decide), hl2 58 58 (by decide), hl2 61 62 (by decide), hl2 61 61 (by decide), hl2 60 61 (by decide), hl2 62 61 (by decide)]; rfl
      have e2 : qOne.contains c = false := by
        simp only [qOne, List.contains_cons, List.contains_nil, Bool.or_false]
        simp only [hne 40 (by decide), hne 41 (by decide), hne 91 (by decide), hne 93 (by decide), hne 123 (by decide), hne 125 (by decide), hne 44 (by decide), hne 59 (by decide), hne 46 (by decide), hne 61 (by decide), hne 60 (by decide), hne 62 (by decide), hne 43 (by decide), hne 45 (by decide), hne 42 (by decide), hne 47 (by decide), hne 38 (by decide), hne 124 (by decide), hne 126 (by decide), hne 63 (by decide)]
        rfl
      rw [if_neg (by rw [e1]; simp)]
      simp only [List.head?_cons]
      rw [if_neg (by rw [e2]; simp)]
    have h6 : qPat (c :: t) = 0 := qPat_0 _ (by simp [hne 63 (by decide)])
    refine ⟨?_, by unfold qComment; rw [hl2 47 47 (by decide), hl2 47 42 (by decide)]; rfl, ?_, by simp only [List.getElem?_cons_zero]; exact hne 35 (by decide), by simp⟩
    · exact longest_two h1 h2 (by simp) (by omega) (by omega) (by omega) (by omega)
    · rw [qRun, if_neg]
      simp [qCls, cBlank]; omega

theorem qKind_itoa (n : Int) (h0 : -9223372036854775808 ≤ n) (h1 : n ≤ 9223372036854775807) : qKind (Lib.itoa n) = 2 := by
  obtain ⟨a1, a2, a3, a4, a5⟩ := longest_itoa n
  have hl := Lib.itoa_length_le n h0 h1
  have hca := qCanon_itoa n h0 h1
  generalize Lib.itoa n = l at *
  have hck : qCheck l 0 2 l.length = 0 := by
    rw [qCheck_x, if_neg, if_neg (by omega), if_neg (by omega)]
    · rw [a4]; simp
    · simp only [List.drop_zero, List.take_length, hca]
      unfold qAt; rw [List.getElem?_eq_none (by omega)]; simp
  have hn : qNext l 0 false = ⟨0, 2, l.length⟩ := by
    rw [qNext_c false (by rw [List.drop_zero, a2]) (by rw [List.drop_zero, a2]; simp) (by rw [List.drop_zero, a3]; simp)]
    rw [List.drop_zero, List.take_of_length_le (by omega), a1]
    simp only [hck]
    rw [if_neg (by simp)]
  have e : qPieces l = qFrom l ⟨0, 0, false⟩ := if_neg (by omega)
  unfold qKind
  rw [e, qFrom_cons l ⟨0, 0, false⟩ (by simp only; omega) (by simp only; rw [hn]) (by simp)]
  simp only [hn]
  unfold kindOf
  simp
end Go.Proofs.YtdfkkeeohbgmbaaDoor
