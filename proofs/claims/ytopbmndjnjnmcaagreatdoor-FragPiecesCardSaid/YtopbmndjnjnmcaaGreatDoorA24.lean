/- Package lex: a piece depends on what stands near it alone. -/
import Derived.Test.YtopbmndjnjnmcaaGreatDoorA23
/- What a cutter does depends on what stands near it alone. -/
namespace Go.Proofs.YtopbmndjnjnmcaaGreatDoor
open Go.RowKit Lx

theorem qRun_agree (k : Nat) : ∀ (r r' : Bs) (M : Nat), r.take M = r'.take M → qRun k r < M → qRun k r' = qRun k r := by
  intro r
  induction r with
  | nil =>
    intro r' M h hM
    have hM0 : M ≠ 0 := by omega
    have : r' = [] := by
      cases r' with
      | nil => rfl
      | cons a t => obtain ⟨m, rfl⟩ : ∃ m, M = m + 1 := ⟨M - 1, by omega⟩; simp at h
    subst this; rfl
  | cons b t ih =>
    intro r' M h hM
    obtain ⟨m, rfl⟩ : ∃ m, M = m + 1 := ⟨M - 1, by omega⟩
    cases r' with
    | nil => simp at h
    | cons b' t' =>
      simp only [List.take_succ_cons, List.cons.injEq] at h
      obtain ⟨rfl, h⟩ := h
      simp only [qRun] at hM ⊢
      split
      · rename_i hc; rw [if_pos hc] at hM; rw [ih t' m h (by omega)]
      · rfl

theorem indexByte_agree (c : UInt8) : ∀ (r r' : Bs) (M : Nat), r.take M = r'.take M → 0 ≤ Lib.indexByte r c → Lib.indexByte r c < M → Lib.indexByte r' c = Lib.indexByte r c := by
  intro r
  induction r with
  | nil => intro r' M h h0 hM; simp [Lib.indexByte] at h0
  | cons b t ih =>
    intro r' M h h0 hM
    obtain ⟨m, rfl⟩ : ∃ m, M = m + 1 := ⟨M - 1, by omega⟩
    cases r' with
    | nil => simp at h
    | cons b' t' =>
      simp only [List.take_succ_cons, List.cons.injEq] at h
      obtain ⟨rfl, h⟩ := h
      simp only [Lib.indexByte] at h0 hM ⊢
      cases hc : (b == c)
      · rw [hc] at h0 hM
        cases hn : (Lib.indexByte t c == -1)
        · rw [hn] at h0 hM
          have hge := Lib.indexByte_ge t c
          simp only [beq_eq_false_iff_ne] at hn
          simp only [Bool.false_eq_true, if_false] at h0 hM
          rw [ih t' m h (by omega) (by omega), show (Lib.indexByte t c == -1) = false by simpa using hn]
        · rw [hn] at h0; simp at h0
      · rfl

theorem nest_ge (l : Bs) (i op : Nat) : (qNestGo l i op).1 = 0 → i + 2 ≤ (qNestGo l i op).2 := by
  induction l, i, op using qNestGo.induct with
  | case1 i a b t h => rw [qNestGo, if_pos h, if_pos rfl]; simp
  | case2 i op a b t h h2 ih => rw [qNestGo, if_pos h, if_neg h2]; intro h3; have := ih h3; omega
  | case3 i a b t h h2 => rw [qNestGo, if_neg h, if_pos h2, if_pos rfl]; simp
  | case4 i op a b t h h2 h3 ih => rw [qNestGo, if_neg h, if_pos h2, if_neg h3]; intro h3; have := ih h3; omega
  | case5 i op a b t h h2 ih => rw [qNestGo, if_neg h, if_neg h2]; intro h3; have := ih h3; omega
  | case6 i op a => simp [qNestGo]
  | case7 i op => simp [qNestGo]

theorem take_two {a b : UInt8} {t r' : Bs} {M : Nat} (h : (a :: b :: t).take M = r'.take M) (hM : 2 ≤ M) : ∃ t', r' = a :: b :: t' ∧ t.take (M - 2) = t'.take (M - 2) := by
  obtain ⟨m, rfl⟩ : ∃ m, M = m + 2 := ⟨M - 2, by omega⟩
  match r', h with
  | [], h => simp at h
  | [x], h => simp at h
  | x :: y :: t', h =>
    simp only [List.take_succ_cons, List.cons.injEq] at h
    obtain ⟨rfl, rfl, h⟩ := h
    exact ⟨t', rfl, by simpa using h⟩

theorem nest_agree (l : Bs) (i op : Nat) : ∀ (l' : Bs) (M : Nat), l.take M = l'.take M → (qNestGo l i op).1 = 0 → (qNestGo l i op).2 ≤ i + M → qNestGo l' i op = qNestGo l i op := by
  induction l, i, op using qNestGo.induct with
  | case1 i a b t h => intro l' M hM; rw [qNestGo, if_pos h, if_pos rfl]; simp
  | case2 i op a b t h h2 ih =>
    intro l' M hM h0 hle
    rw [qNestGo, if_pos h, if_neg h2] at h0 hle ⊢
    have := nest_ge _ _ _ h0
    obtain ⟨t', rfl, ht⟩ := take_two hM (by omega)
    rw [qNestGo, if_pos h, if_neg h2]
    exact ih t' (M - 2) ht h0 (by omega)
  | case3 i a b t h h2 =>
    intro l' M hM h0 hle
    rw [qNestGo, if_neg h, if_pos h2, if_pos rfl] at h0 hle ⊢
    obtain ⟨t', rfl, ht⟩ := take_two hM (by simp at hle; omega)
    rw [qNestGo, if_neg h, if_pos h2, if_pos rfl]
  | case4 i op a b t h h2 h3 ih =>
    intro l' M hM h0 hle
    rw [qNestGo, if_neg h, if_pos h2, if_neg h3] at h0 hle ⊢
    have := nest_ge _ _ _ h0
    obtain ⟨t', rfl, ht⟩ := take_two hM (by omega)
    rw [qNestGo, if_neg h, if_pos h2, if_neg h3]
    exact ih t' (M - 2) ht h0 (by omega)
  | case5 i op a b t h h2 ih =>
    intro l' M hM h0 hle
    rw [qNestGo, if_neg h, if_neg h2] at h0 hle ⊢
    have := nest_ge _ _ _ h0
    obtain ⟨t', rfl, ht⟩ := take_two hM (by omega)
    rw [qNestGo, if_neg h, if_neg h2]
    refine ih (_ :: t') (M - 1) ?_ h0 (by omega)
    rw [show M - 1 = (M - 2) + 1 by omega, List.take_succ_cons, List.take_succ_cons, ht]
  | case6 i op a => simp [qNestGo]
  | case7 i op => simp [qNestGo]

theorem take_of_take {r r' : Bs} {M k : Nat} (h : r.take M = r'.take M) (hk : k ≤ M) : r.take k = r'.take k := by
  have := congrArg (List.take k) h
  rwa [List.take_take, List.take_take, Nat.min_eq_left hk] at this

theorem qComment_agree (r r' : Bs) (M : Nat) (h : r.take M = r'.take M) (h2 : 2 ≤ M) (hl : M ≤ r.length) (h0 : (qComment r).1 = 0) (hlt : (qComment r).2 < M) : qComment r' = qComment r := by
  have ht := take_of_take h h2
  unfold qComment at h0 hlt ⊢
  rw [← ht]
  split
  · rename_i hc
    rw [if_pos hc] at hlt
    by_cases hi : (0 : Int) ≤ Lib.indexByte r 10
    · simp only [hi, if_true] at hlt ⊢
      rw [indexByte_agree 10 r r' M h hi (by omega)]
      simp [hi]
    · simp only [hi, if_false] at hlt; omega
  · split
    · rename_i h1 hc
      rw [if_neg h1, if_pos hc] at h0 hlt
      exact nest_agree r 0 0 r' M h h0 (by have : (qNestGo r 0 0).2 < M := hlt; omega)
    · rfl

theorem get_of_take {l l' : Bs} {N j : Nat} (h : l.take N = l'.take N) (hj : j < N) : l[j]? = l'[j]? := by
  have := congrArg (fun x : Bs => x[j]?) h
  simpa [List.getElem?_take, hj] using this

theorem drop_take_eq {l l' : Bs} {N : Nat} (i : Nat) (h : l.take N = l'.take N) : (l.drop i).take (N - i) = (l'.drop i).take (N - i) := by
  have := congrArg (List.drop i) h
  rwa [List.drop_take, List.drop_take] at this

theorem qCheck_agree {l l' : Bs} {N i k n : Nat} (h : l.take N = l'.take N) (hi : i + n < N) : qCheck l' i k n = qCheck l i k n := by
  have e0 : l[i]? = l'[i]? := get_of_take h (by omega)
  have e1 : l[i + n]? = l'[i + n]? := get_of_take h hi
  have e2 : (l.drop i).take n = (l'.drop i).take n := take_of_take (drop_take_eq i h) (by omega)
  unfold qCheck qAt
  rw [e0, e1, e2]

theorem qNext_a {l : Bs} {i : Nat} (op : Bool) (c0 : (qComment (l.drop i)).1 = 0) (hp : 0 < (qComment (l.drop i)).2) : qNext l i op = ⟨0, 8, (qComment (l.drop i)).2⟩ := by
  unfold qNext; rw [if_neg (by simpa using c0), if_pos hp]
theorem qNext_b {l : Bs} {i : Nat} (op : Bool) (c0 : (qComment (l.drop i)).1 = 0) (hp : ¬ 0 < (qComment (l.drop i)).2) (hb : 0 < qRun 7 (l.drop i)) : qNext l i op = ⟨0, 7, qRun 7 (l.drop i)⟩ := by
  unfold qNext; rw [if_neg (by simpa using c0), if_neg hp, if_pos hb]
theorem qNext_c {l : Bs} {i : Nat} (op : Bool) (c0 : (qComment (l.drop i)).1 = 0) (hp : ¬ 0 < (qComment (l.drop i)).2) (hb : ¬ 0 < qRun 7 (l.drop i)) : qNext l i op =
    if qCheck l i (qLongest ((l.drop i).take 100) op).1 (qLongest ((l.drop i).take 100) op).2 ≠ 0 then ⟨qCheck l i (qLongest ((l.drop i).take 100) op).1 (qLongest ((l.drop i).take 100) op).2, 0, 0⟩
    else ⟨0, (qLongest ((l.drop i).take 100) op).1, (qLongest ((l.drop i).take 100) op).2⟩ := by
  unfold qNext; rw [if_neg (by simpa using c0), if_neg hp, if_neg hb]

/-- **Locality**: a piece that ends well ahead of a place is the same, whatever stands from there on. -/
theorem qNext_agree (l l' : Bs) (N i : Nat) (op : Bool) (h : l.take N = l'.take N) (hl : N ≤ l.length) (h0 : (qNext l i op).er = 0) (hn : i + (qNext l i op).len + 100 < N) : qNext l' i op = qNext l i op := by
  have hr := drop_take_eq i h
  have hlen : N - i ≤ (l.drop i).length := by simp; omega
  have h100 : (l.drop i).take 100 = (l'.drop i).take 100 := take_of_take hr (by omega)
  have hne : l.drop i ≠ [] := fun e => by rw [e] at hlen; simp at hlen; omega
  by_cases c0 : (qComment (l.drop i)).1 = 0
  · have hc : qComment (l'.drop i) = qComment (l.drop i) := by
      refine qComment_agree _ _ (N - i) hr (by omega) hlen c0 ?_
      by_cases hp : 0 < (qComment (l.drop i)).2
      · rw [qNext_a op c0 hp] at hn; simp only at hn; omega
      · omega
    have c0' := c0
    rw [← hc] at c0'
    by_cases hp : 0 < (qComment (l.drop i)).2
    · rw [qNext_a op c0 hp, qNext_a op c0' (by rw [hc]; exact hp), hc]
    · have hp' : ¬ 0 < (qComment (l'.drop i)).2 := by rw [hc]; exact hp
      by_cases hb : 0 < qRun 7 (l.drop i)
      · rw [qNext_b op c0 hp hb] at hn
        simp only at hn
        have hq := qRun_agree 7 _ _ (N - i) hr (by omega)
        rw [qNext_b op c0 hp hb, qNext_b op c0' hp' (by rw [hq]; exact hb), hq]
      · have hq := qRun_agree 7 _ _ (N - i) hr (by omega)
        rw [qNext_c op c0 hp hb] at h0 hn
        rw [qNext_c op c0 hp hb, qNext_c op c0' hp' (by rw [hq]; exact hb), ← h100]
        by_cases hk : qCheck l i (qLongest ((l.drop i).take 100) op).1 (qLongest ((l.drop i).take 100) op).2 = 0
        · rw [if_neg (by simpa using hk)] at hn
          simp only at hn
          rw [qCheck_agree h (by omega)]
        · rw [if_pos hk] at h0; exact absurd h0 hk
  · exfalso; unfold qNext at h0; rw [if_pos c0] at h0; exact c0 h0

theorem get_drop {l l' : Bs} {i i' : Nat} (h : l.drop i = l'.drop i') (n : Nat) : l[i + n]? = l'[i' + n]? := by
  have := congrArg (fun x : Bs => x[n]?) h
  simpa [List.getElem?_drop] using this

theorem qNext_drop {l l' : Bs} {i i' : Nat} (h : l.drop i = l'.drop i') (op : Bool) : qNext l' i' op = qNext l i op := by
  have e0 := get_drop h 0
  simp only [Nat.add_zero] at e0
  have hq : ∀ k n, qCheck l' i' k n = qCheck l i k n := fun k n => by
    unfold qCheck qAt
    rw [e0, get_drop h n, h]
  unfold qNext
  rw [h, hq]

theorem qOper_drop {l l' : Bs} {i i' : Nat} (h : l.drop i = l'.drop i') (k : Nat) : qOper l' i' k = qOper l i k := by
  have e0 := get_drop h 0
  simp only [Nat.add_zero] at e0
  unfold qOper; rw [e0]

theorem qOper_agree {l l' : Bs} {N i : Nat} (h : l.take N = l'.take N) (hi : i < N) (k : Nat) : qOper l' i k = qOper l i k := by
  unfold qOper; rw [get_of_take h hi]

theorem qAfter_agree {l l' : Bs} {N : Nat} (x : St) (h : l.take N = l'.take N) (hi : x.i < N) (k n : Nat) : qAfter l' x k n = qAfter l x k n := by
  unfold qAfter; rw [qOper_agree h hi]

/-- What a state of a text without an error does next. -/
theorem qFrom_inv {l : Bs} {x : St} {p : Pc} {r : List Pc} (h : qFrom l x = (p :: r, none)) :
    x.i < l.length ∧ (qNext l x.i x.op).er = 0 ∧ ¬ (p.kind < 7 ∧ x.t = 6000) ∧ p = ⟨(qNext l x.i x.op).kind, x.i, (qNext l x.i x.op).len⟩ ∧ qFrom l (qAfter l x p.kind p.len) = (r, none) := by
  by_cases h1 : l.length ≤ x.i
  · rw [qFrom_end l x h1] at h; simp at h
  · by_cases h2 : (qNext l x.i x.op).er = 0
    · by_cases h3 : (qNext l x.i x.op).kind < 7 ∧ x.t = 6000
      · rw [qFrom_many l x (by omega) h2 h3.1 h3.2] at h; simp at h
      · rw [qFrom_cons l x (by omega) h2 h3] at h
        simp only [Prod.mk.injEq, List.cons.injEq] at h
        obtain ⟨⟨rfl, hr⟩, he⟩ := h
        exact ⟨by omega, h2, h3, rfl, Prod.ext hr he⟩
    · rw [qFrom_err l x (by omega) h2] at h; simp at h
theorem qFrom_nil {l : Bs} {x : St} (h : qFrom l x = ([], none)) : l.length ≤ x.i := by
  by_cases h1 : l.length ≤ x.i
  · exact h1
  · exfalso
    by_cases h2 : (qNext l x.i x.op).er = 0
    · by_cases h3 : (qNext l x.i x.op).kind < 7 ∧ x.t = 6000
      · rw [qFrom_many l x (by omega) h2 h3.1 h3.2] at h; simp at h
      · rw [qFrom_cons l x (by omega) h2 h3] at h; simp at h
    · rw [qFrom_err l x (by omega) h2] at h; simp at h
end Go.Proofs.YtopbmndjnjnmcaaGreatDoor
