/- Package lex: a comment between two spaces does not change the tokens. -/
import Derived.Test.YtdfkkeeohbgmbaaDoorA40
namespace Go.Proofs.YtdfkkeeohbgmbaaDoor
open Go.RowKit Lx

/-- The kinds and texts of the tokens from a state on; none if there is an error. -/
def toks (l : Bs) (x : St) : Option (List (Nat × Bs)) := if (qFrom l x).2 = none then some (((qFrom l x).1.filter isTok).map fun p => (p.kind, (l.drop p.at_).take p.len)) else none

theorem toks_end (l : Bs) (x : St) (h : l.length ≤ x.i) : toks l x = some [] := by
  unfold toks; rw [qFrom_end l x h]; rfl
theorem toks_err (l : Bs) (x : St) (h : x.i < l.length) (he : (qNext l x.i x.op).er ≠ 0) : toks l x = none := by
  unfold toks; rw [qFrom_err l x h he]; rfl
theorem toks_many (l : Bs) (x : St) (h : x.i < l.length) (he : (qNext l x.i x.op).er = 0) (hk : (qNext l x.i x.op).kind < 7) (ht : x.t = 6000) : toks l x = none := by
  unfold toks; rw [qFrom_many l x h he hk ht]; rfl
theorem toks_skip (l : Bs) (x : St) (h : x.i < l.length) (he : (qNext l x.i x.op).er = 0) (hk : 7 ≤ (qNext l x.i x.op).kind) : toks l x = toks l ⟨x.i + (qNext l x.i x.op).len, x.t, x.op⟩ := by
  have hq : qAfter l x (qNext l x.i x.op).kind (qNext l x.i x.op).len = ⟨x.i + (qNext l x.i x.op).len, x.t, x.op⟩ := if_neg (by omega)
  unfold toks
  rw [qFrom_cons l x h he (by omega), hq]
  simp only
  rw [List.filter_cons_of_neg (by simp [isTok]; omega)]
theorem toks_tok (l : Bs) (x : St) (h : x.i < l.length) (he : (qNext l x.i x.op).er = 0) (hk : (qNext l x.i x.op).kind < 7) (ht : x.t ≠ 6000) :
    toks l x = (toks l (qAfter l x (qNext l x.i x.op).kind (qNext l x.i x.op).len)).map (fun r => ((qNext l x.i x.op).kind, (l.drop x.i).take (qNext l x.i x.op).len) :: r) := by
  unfold toks
  rw [qFrom_cons l x h he (by omega)]
  simp only
  rw [List.filter_cons_of_pos (by simp [isTok]; omega)]
  split <;> simp

/-- The tokens depend on what follows alone. -/
theorem toks_drop : ∀ (n : Nat) (l l' : Bs) (i i' t : Nat) (op : Bool), l.length - i ≤ n → l.drop i = l'.drop i' → toks l' ⟨i', t, op⟩ = toks l ⟨i, t, op⟩ := by
  intro n
  induction n with
  | zero =>
    intro l l' i i' t op hn hd
    have := congrArg List.length hd
    simp only [List.length_drop] at this
    rw [toks_end l _ (by simp only; omega), toks_end l' _ (by simp only; omega)]
  | succ n ih =>
    intro l l' i i' t op hn hd
    have hlen := congrArg List.length hd
    simp only [List.length_drop] at hlen
    by_cases hi : l.length ≤ i
    · rw [toks_end l _ hi, toks_end l' _ (by simp only; omega)]
    · have hq := qNext_drop hd op
      have h1 : (⟨i, t, op⟩ : St).i < l.length := by simp only; omega
      have h2 : (⟨i', t, op⟩ : St).i < l'.length := by simp only; omega
      by_cases he : (qNext l i op).er = 0
      · have hl := qNext_len l i op h1 he
        have hd' : l.drop (i + (qNext l i op).len) = l'.drop (i' + (qNext l i op).len) := by
          rw [← List.drop_drop, ← List.drop_drop, hd]
        by_cases hk : (qNext l i op).kind < 7
        · by_cases ht : t = 6000
          · rw [toks_many l _ h1 he hk ht, toks_many l' _ h2 (by simp only; rw [hq]; exact he) (by simp only; rw [hq]; exact hk) ht]
          · rw [toks_tok l _ h1 he hk ht, toks_tok l' _ h2 (by simp only; rw [hq]; exact he) (by simp only; rw [hq]; exact hk) ht]
            simp only [hq]
            unfold qAfter
            simp only [hk, if_true]
            rw [qOper_drop hd, ih l l' _ _ _ _ (by omega) hd', hd]
        · rw [toks_skip l _ h1 he (by simp only; omega), toks_skip l' _ h2 (by simp only; rw [hq]; exact he) (by simp only; rw [hq]; omega)]
          simp only [hq]
          exact ih l l' _ _ _ _ (by omega) hd'
      · rw [toks_err l _ h1 he, toks_err l' _ h2 (by simp only; rw [hq]; exact he)]

theorem qRun_drop (k : Nat) : ∀ (l : Bs) (c : Nat), c ≤ qRun k l → qRun k (l.drop c) = qRun k l - c
  | [], c, h => by simp [qRun]
  | b :: t, 0, _ => by simp
  | b :: t, c + 1, h => by
    simp only [qRun] at h ⊢
    split at h
    · rename_i hc
      rw [if_pos hc, List.drop_succ_cons, qRun_drop k t c (by omega)]; omega
    · omega

/-- Blanks may be entered anywhere. -/
theorem toks_blank (l : Bs) (i c t : Nat) (op : Bool) (hc : c ≤ qRun 7 (l.drop i)) : toks l ⟨i + c, t, op⟩ = toks l ⟨i, t, op⟩ := by
  have key : ∀ j, 0 < qRun 7 (l.drop j) → toks l ⟨j, t, op⟩ = toks l ⟨j + qRun 7 (l.drop j), t, op⟩ := by
    intro j hj
    have hcm := blank_comment _ hj
    have hn := qNext_b op (l := l) (i := j) (by rw [hcm]) (by rw [hcm]; simp) hj
    have hlt : j < l.length := by
      rcases Nat.lt_or_ge j l.length with h | h
      · exact h
      · rw [List.drop_eq_nil_of_le h] at hj; simp [qRun] at hj
    have := toks_skip l ⟨j, t, op⟩ hlt (by simp only; rw [hn]) (by simp only; rw [hn]; simp)
    simp only [hn] at this
    exact this
  by_cases h0 : c = 0
  · subst h0; rfl
  · have hd := qRun_drop 7 (l.drop i) c hc
    rw [List.drop_drop] at hd
    rw [key i (by omega)]
    by_cases he : c = qRun 7 (l.drop i)
    · rw [he]
    · rw [key (i + c) (by omega), hd]
      congr 2; omega

/-- The state behind pieces. -/
def stAfter (l : Bs) : St → List Pc → St
  | x, [] => x
  | x, p :: r => stAfter l (qAfter l x p.kind p.len) r

theorem stAfter_i (l : Bs) : ∀ (ps : List Pc) (x : St), x.i ≤ (stAfter l x ps).i
  | [], x => Nat.le_refl _
  | p :: r, x => by
    have := stAfter_i l r (qAfter l x p.kind p.len)
    rw [qAfter_i] at this
    simp only [stAfter]; omega

theorem stAfter_from (l : Bs) : ∀ (pre post : List Pc) (x : St), qFrom l x = (pre ++ post, none) → qFrom l (stAfter l x pre) = (post, none)
  | [], post, x, h => h
  | p :: r, post, x, h => by
    obtain ⟨_, _, _, _, h5⟩ := qFrom_inv (by simpa using h)
    exact stAfter_from l r post _ h5

/-- The tokens of two texts that agree up to the place, if they do from there on. -/
theorem Put.toks {l l' : Bs} {a : Nat} (h : Put l l' a) : ∀ (pre post : List Pc) (x : St), qFrom l x = (pre ++ post, none) → (stAfter l x pre).i = a →
    (∀ p, pre.getLast? = some p → p.kind = 8 → l[p.at_ + 1]? ≠ some 47) →
    toks l' (stAfter l x pre) = toks l (stAfter l x pre) → toks l' x = toks l x
  | [], post, x, _, _, _, ht => ht
  | p :: r, post, x, hq, ha, hlast, ht => by
    have hle := h.le
    have hlen' : l'.length > a := by
      obtain ⟨s, hs⟩ := h.sp
      have := congrArg List.length hs
      simp only [List.length_drop, List.length_cons] at this
      omega
    obtain ⟨h1, h2, h3, h4, h5⟩ := qFrom_inv (by simpa using hq)
    have hl := qNext_len l x.i x.op h1 h2
    have hp : p.kind = (qNext l x.i x.op).kind ∧ p.at_ = x.i ∧ p.len = (qNext l x.i x.op).len := by rw [h4]; exact ⟨rfl, rfl, rfl⟩
    have hi := stAfter_i l r (qAfter l x p.kind p.len)
    rw [qAfter_i] at hi
    have hend : x.i + p.len ≤ a := by simp only [stAfter] at ha; omega
    have hlast' : ∀ q, r.getLast? = some q → q.kind = 8 → l[q.at_ + 1]? ≠ some 47 := by
      intro q hq2
      refine hlast q ?_
      rw [List.getLast?_cons, hq2]; rfl
    have ih := Put.toks h r post (qAfter l x p.kind p.len) (by simpa using h5) ha hlast' ht
    have hx' : x.i < l'.length := by omega
    by_cases hb : p.kind = 7 ∧ x.i + p.len = a
    · obtain ⟨hb1, hb2⟩ := hb
      have hqa : qAfter l x p.kind p.len = ⟨x.i + p.len, x.t, x.op⟩ := if_neg (by omega)
      rw [hqa] at ih
      have hn : 0 < qRun 7 (l.drop x.i) ∧ qNext l x.i x.op = ⟨0, 7, qRun 7 (l.drop x.i)⟩ := by
        obtain ⟨_, ⟨_, he⟩ | ⟨_, hb, he⟩ | ⟨_, _, he, _⟩⟩ := comment_kind h2
        · rw [he] at hp; simp at hp; omega
        · exact ⟨hb, he⟩
        · obtain ⟨_, h6⟩ := qLongest_le ((l.drop x.i).take 100) x.op
          rw [he] at hp; simp only at hp; omega
      have hplen : p.len = qRun 7 (l.drop x.i) := by rw [hp.2.2, hn.2]
      have hrun : p.len ≤ qRun 7 (l'.drop x.i) := by
        have h6 : qRun 7 ((l.drop x.i).take (a - x.i)) = p.len := by
          rw [qRun_pre 7 _ _ (by omega), hplen]
        have h7 := qRun_take 7 (l'.drop x.i) (a - x.i)
        rw [drop_take_eq x.i h.pre, h6] at h7
        exact h7
      have e1 := toks_blank l' x.i p.len x.t x.op hrun
      have e2 := toks_blank l x.i p.len x.t x.op (by omega)
      rw [show x = ⟨x.i, x.t, x.op⟩ from rfl, ← e1, ← e2]
      exact ih
    · have hsame : qNext l' x.i x.op = qNext l x.i x.op := by
        have hk8 := hl.2.2
        by_cases hk : (qNext l x.i x.op).kind < 7
        · exact h.tok h2 hk (by omega) (by omega)
        · by_cases hk7 : (qNext l x.i x.op).kind = 7
          · exact h.blank h2 hk7 (by omega)
          · refine h.comment h2 (by omega) (by omega) ?_
            intro he
            have hr : r = [] := by
              cases r with
              | nil => rfl
              | cons q s =>
                exfalso
                obtain ⟨g1, g2, _, g4, _⟩ := qFrom_inv (by simpa using h5)
                have gl := qNext_len l _ _ g1 g2
                have gi := stAfter_i l s (qAfter l (qAfter l x p.kind p.len) q.kind q.len)
                rw [qAfter_i, qAfter_i] at gi
                simp only [stAfter] at ha
                have hql : q.len = (qNext l (qAfter l x p.kind p.len).i (qAfter l x p.kind p.len).op).len := by rw [g4]
                omega
            subst hr
            have := hlast p (by simp) (by omega)
            rw [hp.2.1] at this
            exact this
      have hqa : qAfter l' x p.kind p.len = qAfter l x p.kind p.len := by
        unfold qAfter; split
        · unfold qOper; rw [h.get x.i (by omega)]
        · rfl
      by_cases hk : (qNext l x.i x.op).kind < 7
      · have ht6 : x.t ≠ 6000 := fun e => h3 ⟨by omega, e⟩
        rw [toks_tok l x h1 h2 hk ht6, toks_tok l' x hx' (by rw [hsame]; exact h2) (by rw [hsame]; exact hk) ht6, hsame]
        rw [← hp.1, ← hp.2.2, hqa, ih]
        rw [take_of_take (drop_take_eq x.i h.pre) (show p.len ≤ a - x.i by omega)]
      · have hqa2 : qAfter l x p.kind p.len = ⟨x.i + p.len, x.t, x.op⟩ := if_neg (by omega)
        rw [hqa2] at ih
        rw [toks_skip l x h1 h2 (by omega), toks_skip l' x hx' (by rw [hsame]; exact h2) (by rw [hsame]; omega), hsame, ← hp.2.2]
        exact ih

/- The comment that is put. -/
theorem nest_plain : ∀ (f r : Bs) (i op : Nat), (∀ c ∈ f, c ≠ 42 ∧ c ≠ 47) → 1 ≤ op → qNestGo (f ++ 42 :: 47 :: r) i op = if op = 1 then (0, i + f.length + 2) else qNestGo r (i + f.length + 2) (op - 1)
  | [], r, i, op, _, ho => by
    rw [List.nil_append, qNestGo, if_neg (by decide), if_pos (by decide)]
    split <;> simp
  | [c], r, i, op, hf, ho => by
    have hc := hf c (by simp)
    rw [List.cons_append, List.nil_append, qNestGo, if_neg (by simp; intro h; exact absurd h hc.2), if_neg (by simp)]
    rw [show (42 :: 47 :: r) = [] ++ 42 :: 47 :: r from rfl, nest_plain [] r (i + 1) op (by simp) ho]
    simp
  | c :: d :: t, r, i, op, hf, ho => by
    have hc := hf c (by simp)
    rw [List.cons_append, List.cons_append, qNestGo, if_neg (by simp; intro h; exact absurd h hc.2), if_neg (by simp; intro h; exact absurd h hc.1)]
    rw [← List.cons_append, nest_plain (d :: t) r (i + 1) op (fun x hx => hf x (by simp [hx])) ho]
    simp only [List.length_cons]
    rw [show i + 1 + (t.length + 1) + 2 = i + (t.length + 1 + 1) + 2 by omega]

/-- The bytes that gap makes. -/
def gapOf (f : Bs) : Bs := 32 :: 47 :: 42 :: 32 :: (f ++ [32, 42, 47, 32])

theorem gap_comment (f r : Bs) (hf : ∀ c ∈ f, c ≠ 42 ∧ c ≠ 47) : qComment (47 :: 42 :: 32 :: (f ++ 32 :: 42 :: 47 :: r)) = (0, f.length + 6) := by
  unfold qComment
  rw [if_neg (by simp), if_pos (by simp)]
  unfold qNest
  rw [qNestGo, if_pos (by decide), if_neg (by omega)]
  have hg : ∀ c ∈ (32 :: (f ++ [32])), c ≠ 42 ∧ c ≠ 47 := by
    intro c hc
    simp only [List.mem_cons, List.mem_append, List.not_mem_nil, or_false] at hc
    rcases hc with rfl | hc | rfl
    · decide
    · exact hf c hc
    · decide
  have := nest_plain (32 :: (f ++ [32])) r 2 1 hg (by omega)
  simp only [List.cons_append, List.append_assoc, List.nil_append, if_true] at this
  rw [show (0 + 2) = 2 from rfl, show 0 + 1 = 1 from rfl, this]
  simp; omega

/-- Behind what is put the tokens are those that were there. -/
theorem toks_gap (l l' : Bs) (a b t : Nat) (op : Bool) (f : Bs) (hf : ∀ c ∈ f, c ≠ 42 ∧ c ≠ 47) (h : l'.drop a = gapOf f ++ l.drop b) : toks l' ⟨a, t, op⟩ = toks l ⟨b, t, op⟩ := by
  have hlen := congrArg List.length h
  simp only [gapOf, List.length_drop, List.length_append, List.length_cons, List.length_nil] at hlen
  have d1 : l'.drop (a + 1) = 47 :: 42 :: 32 :: (f ++ 32 :: 42 :: 47 :: (32 :: l.drop b)) := by
    rw [← List.drop_drop, h]; simp [gapOf]
  have d2 : l'.drop (a + 1 + (f.length + 6)) = 32 :: l.drop b := by
    rw [← List.drop_drop, d1]
    have : (47 :: 42 :: 32 :: (f ++ 32 :: 42 :: 47 :: (32 :: l.drop b))) = (47 :: 42 :: 32 :: (f ++ [32, 42, 47])) ++ (32 :: l.drop b) := by simp
    rw [this, List.drop_append, List.drop_eq_nil_of_le (by simp), List.nil_append]
    simp
  have d3 : l.drop b = l'.drop (a + 1 + (f.length + 6) + 1) := by
    rw [← List.drop_drop, d2]; rfl
  have r0 : 1 ≤ qRun 7 (l'.drop a) := by rw [h]; simp [gapOf, qRun, qCls, cBlank]
  have r2 : 1 ≤ qRun 7 (l'.drop (a + 1 + (f.length + 6))) := by rw [d2]; simp [qRun, qCls, cBlank]
  have hcm := gap_comment f (32 :: l.drop b) hf
  rw [← d1] at hcm
  have hn := qNext_a (l := l') (i := a + 1) op (by rw [hcm]) (by rw [hcm]; simp)
  rw [← toks_blank l' a 1 t op r0]
  have hsk := toks_skip l' ⟨a + 1, t, op⟩ (by simp only; omega) (by simp only; rw [hn]) (by simp only; rw [hn]; simp)
  simp only [hn] at hsk
  rw [hsk, hcm]
  simp only
  rw [← toks_blank l' (a + 1 + (f.length + 6)) 1 t op r2]
  exact toks_drop _ l l' b _ t op (Nat.le_refl _) d3
end Go.Proofs.YtdfkkeeohbgmbaaDoor
