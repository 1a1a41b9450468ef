/- Package lex: pieces ahead of a place at which a space is put. -/
import Derived.Test.YtdfkkeeohbgmbaaDoorA39
namespace Go.Proofs.YtdfkkeeohbgmbaaDoor
open Go.RowKit Lx

theorem comment_kind {l : Bs} {i : Nat} {op : Bool} (h0 : (qNext l i op).er = 0) :
    (qComment (l.drop i)).1 = 0 ∧ ((0 < (qComment (l.drop i)).2 ∧ qNext l i op = ⟨0, 8, (qComment (l.drop i)).2⟩) ∨
      ((qComment (l.drop i)).2 = 0 ∧ 0 < qRun 7 (l.drop i) ∧ qNext l i op = ⟨0, 7, qRun 7 (l.drop i)⟩) ∨
      ((qComment (l.drop i)).2 = 0 ∧ qRun 7 (l.drop i) = 0 ∧ qNext l i op = ⟨0, (qLongest ((l.drop i).take 100) op).1, (qLongest ((l.drop i).take 100) op).2⟩ ∧ qCheck l i (qLongest ((l.drop i).take 100) op).1 (qLongest ((l.drop i).take 100) op).2 = 0)) := by
  by_cases c0 : (qComment (l.drop i)).1 = 0
  · refine ⟨c0, ?_⟩
    by_cases hp : 0 < (qComment (l.drop i)).2
    · exact .inl ⟨hp, qNext_a op c0 hp⟩
    · by_cases hb : 0 < qRun 7 (l.drop i)
      · exact .inr (.inl ⟨by omega, hb, qNext_b op c0 hp hb⟩)
      · have he := qNext_c op c0 hp hb
        by_cases hc : qCheck l i (qLongest ((l.drop i).take 100) op).1 (qLongest ((l.drop i).take 100) op).2 = 0
        · rw [if_neg (by simpa using hc)] at he
          exact .inr (.inr ⟨by omega, by omega, he, hc⟩)
        · rw [if_pos hc] at he
          rw [he] at h0; exact absurd h0 hc
  · exfalso; unfold qNext at h0; rw [if_pos c0] at h0; exact c0 h0

/-- A piece that ends in a colon. -/
theorem piece_colon {l : Bs} {i n : Nat} {op : Bool} (h0 : (qNext l i op).er = 0) (hn : (qNext l i op).len = n) (h1 : 1 ≤ n) (c : UInt8) (h58 : l[i + n - 1]? = some 58) (hc : l[i + n]? = some c) (h2 : 2 ≤ i + n) (hw : ∃ a, l[i + n - 2]? = some a ∧ cWord a.toNat = true) : (c == 58 || c == 61) = false := by
  have e1 : (l.drop i)[n - 1]? = some 58 := by rw [List.getElem?_drop, show i + (n - 1) = i + n - 1 by omega]; exact h58
  have e2 : (l.drop i)[n]? = some c := by rw [List.getElem?_drop]; exact hc
  obtain ⟨c0, ⟨hp, he⟩ | ⟨hp, hb, he⟩ | ⟨hp, hb, he, hck⟩⟩ := comment_kind h0
  · rw [he] at hn; simp only at hn
    unfold qComment at c0 hn
    split at hn
    · rename_i ht
      simp only at hn
      split at hn
      · rename_i hi
        have hx := Lib.indexByte_ge (l.drop i) 10
        have := index_at (l.drop i) 10 hi
        rw [hn, e2] at this
        cases this; decide
      · rw [List.getElem?_eq_none (by omega)] at e2; cases e2
    · rename_i ht
      rw [if_neg ht] at c0
      split at hn
      · rename_i h3
        rw [if_pos h3] at c0
        have := nest_last (l.drop i) 0 0 c0
        have hn' : (qNestGo (l.drop i) 0 0).2 = n := hn
        rw [hn', Nat.sub_zero, e1] at this
        cases this
      · simp only at hn; omega
  · rw [he] at hn; simp only at hn
    obtain ⟨a, ha, hq⟩ := qRun_last 7 _ hb
    rw [hn, e1] at ha; cases ha; exact absurd hq (by decide)
  · rw [he] at hn; simp only at hn
    obtain ⟨h40, _⟩ := qCheck_ok hck
    rw [hn] at h40
    have t1 : ((l.drop i).take 100)[n - 1]? = some 58 := by rw [get_pre _ _ _ (by omega)]; exact e1
    have t2 : ((l.drop i).take 100)[n]? = some c := by rw [get_pre _ _ _ (by omega)]; exact e2
    rcases qB_is ((l.drop i).take 100) op 6 with h | ⟨j, hj, _, h⟩
    · rw [qB_6] at h; omega
    · rw [qB_6, hn] at h
      have : j = 0 ∨ j = 1 ∨ j = 2 ∨ j = 3 ∨ j = 4 ∨ j = 5 := by omega
      rcases this with rfl | rfl | rfl | rfl | rfl | rfl
      · exact absurd t1 (by have := name_last ((l.drop i).take 100) (by show 0 < qLen _ op 0; omega); rwa [show qName ((l.drop i).take 100) = n from h] at this)
      · exact absurd t1 (by have := int_last ((l.drop i).take 100) op (by show 0 < qLen _ op 1; omega); rwa [show qInt ((l.drop i).take 100) op = n from h] at this)
      · exact key_last ((l.drop i).take 100) (by show 0 < qLen _ op 2; omega) c (by rw [show qKey ((l.drop i).take 100) = n from h]; exact t2)
      · exact absurd t1 (by have := hash_last ((l.drop i).take 100) (by show 0 < qLen _ op 3; omega); rwa [show qHash ((l.drop i).take 100) = n from h] at this)
      · exfalso
        have := sign_last ((l.drop i).take 100) (by show 0 < qLen _ op 4; omega)
        rw [show qSign ((l.drop i).take 100) = n from h] at this
        obtain ⟨rfl, h3⟩ := this t1
        rw [get_pre _ _ _ (by omega), List.getElem?_drop] at h3
        obtain ⟨a, ha, hq⟩ := hw
        rw [show i + 2 - 2 = i + 0 by omega, h3] at ha
        cases ha; exact absurd hq (by decide)
      · exact absurd t1 (by have := pat_last ((l.drop i).take 100) (by show 0 < qLen _ op 5; omega); rwa [show qPat ((l.drop i).take 100) = n from h] at this)

/-- A text into which something is put that begins with a space. -/
structure Put (l l' : Bs) (a : Nat) : Prop where
  le : a ≤ l.length
  pre : l'.take a = l.take a
  sp : ∃ r, l'.drop a = 32 :: r
  colon : ∀ c, l[a - 1]? = some 58 → l[a]? = some c → 2 ≤ a → (∃ b, l[a - 2]? = some b ∧ cWord b.toNat = true) → (c == 58 || c == 61) = false

theorem Put.drop {l l' : Bs} {a : Nat} (h : Put l l' a) (i : Nat) (hi : i ≤ a) : ∃ r, l'.drop i = (l.drop i).take (a - i) ++ 32 :: r := by
  obtain ⟨r, hr⟩ := h.sp
  refine ⟨r, ?_⟩
  have e : l' = l.take a ++ 32 :: r := by rw [← List.take_append_drop a l', h.pre, hr]
  rw [e, List.drop_append_of_le_length (by rw [List.length_take]; have := h.le; omega), List.drop_take]

theorem Put.get {l l' : Bs} {a : Nat} (h : Put l l' a) (n : Nat) (hn : n < a) : l'[n]? = l[n]? := get_of_take h.pre hn
theorem Put.at_ {l l' : Bs} {a : Nat} (h : Put l l' a) : l'[a]? = some 32 := by
  obtain ⟨r, hr⟩ := h.sp
  have := congrArg (fun x : Bs => x[0]?) hr
  simpa using this

theorem Put.check {l l' : Bs} {a i k n : Nat} (h : Put l l' a) (hi : i < a) (hn : i + n ≤ a) (hc : qCheck l i k n = 0) : qCheck l' i k n = 0 := by
  have hq : ∀ c, qCls c 32 = false → qAt c l' (i + n) = true → qAt c l (i + n) = true := by
    intro c hc hx
    unfold qAt at hx ⊢
    rcases Nat.lt_or_ge (i + n) a with h' | h'
    · rwa [h.get _ h'] at hx
    · rw [show i + n = a by omega, h.at_] at hx
      exact absurd hx (by show ¬ qCls c 32 = true; simp [hc])
  have ht : (l'.drop i).take n = (l.drop i).take n := by
    have := take_of_take (drop_take_eq i h.pre) (show n ≤ a - i by omega)
    exact this
  unfold qCheck at hc ⊢
  rw [ht, h.get i hi]
  split at hc
  · cases hc
  · rename_i h1
    split at hc
    · cases hc
    · rename_i h2
      rw [if_neg, if_neg]
      · exact hc
      · intro hx; apply h2
        simp only [Bool.and_eq_true, Bool.or_eq_true] at hx ⊢
        exact ⟨hx.1, hx.2.imp id (hq 2 (by decide))⟩
      · intro hx; apply h1
        simp only [Bool.and_eq_true, Bool.or_eq_true] at hx ⊢
        exact ⟨hx.1, hx.2.imp (hq 6 (by decide)) id⟩

theorem take2_space {v r : Bs} (a b : UInt8) (ha : a ≠ 32) (hb : b ≠ 32) (h : (v.take 2 == [a, b]) = false) : ((v ++ 32 :: r).take 2 == [a, b]) = false := by
  match v with
  | [] => simp; intro e; exact absurd e.symm ha
  | [x] => simp; intro _ e; exact hb e.symm
  | x :: y :: t => simpa using h

/-- A token ahead of the place is the same. -/
theorem Put.tok {l l' : Bs} {a i : Nat} {op : Bool} (h : Put l l' a) (h0 : (qNext l i op).er = 0) (hk : (qNext l i op).kind < 7) (hn : i + (qNext l i op).len ≤ a) (h1 : 1 ≤ (qNext l i op).len) : qNext l' i op = qNext l i op := by
  obtain ⟨c0, ⟨hp, he⟩ | ⟨hp, hb, he⟩ | ⟨hp, hb, he, hck⟩⟩ := comment_kind h0
  · rw [he] at hk; simp at hk
  · rw [he] at hk; simp at hk
  · rw [he] at hn h1
    simp only at hn h1
    obtain ⟨r, hr⟩ := h.drop i (by omega)
    obtain ⟨x, t, hx⟩ : ∃ x t, (l.drop i).take (a - i) = x :: t := by
      cases hv : (l.drop i).take (a - i) with
      | nil =>
        exfalso
        have := congrArg List.length hv
        have hle := h.le
        simp only [List.length_take, List.length_drop, List.length_nil] at this
        omega
      | cons x t => exact ⟨x, t, rfl⟩
    have hhead : (l.drop i)[0]? = some x := by
      have := congrArg (fun y : Bs => y[0]?) hx
      simpa [List.getElem?_take, show 0 < a - i by omega] using this
    have hcm : qComment (l.drop i) = (0, 0) := Prod.ext c0 hp
    have hc' : qComment (l'.drop i) = (0, 0) := by
      have hne : ∀ b, b = 47 ∨ b = 42 → ((l.drop i).take 2 == [47, b]) = false := by
        intro b hb2
        cases hcc : ((l.drop i).take 2 == [47, b]) with
        | false => rfl
        | true =>
          exfalso
          rcases hb2 with rfl | rfl
          · unfold qComment at hcm
            rw [if_pos hcc] at hcm
            simp only [Prod.mk.injEq, true_and] at hcm
            match hd : l.drop i, hcc with
            | [], hcc => simp at hcc
            | [y], hcc => simp at hcc
            | y :: z :: w, hcc =>
              rw [hd] at hcm
              simp at hcc
              obtain ⟨rfl, rfl⟩ := hcc
              split at hcm
              · rename_i hge
                have := index_at _ 10 hge
                rw [hcm] at this
                simp at this
              · simp at hcm
          · unfold qComment at hcm
            rw [if_neg (by
              intro h3
              simp only [beq_iff_eq] at h3 hcc
              rw [h3] at hcc; simp at hcc), if_pos hcc] at hcm
            have h3 : (qNestGo (l.drop i) 0 0) = (0, 0) := hcm
            have := nest_ge (l.drop i) 0 0 (by rw [h3])
            rw [h3] at this; simp at this
      have hv : ∀ b, b = 47 ∨ b = 42 → (((l.drop i).take (a - i)).take 2 == [47, b]) = false := by
        intro b hb2
        rw [List.take_take]
        rcases Nat.lt_or_ge (a - i) 2 with h2 | h2
        · rw [Nat.min_eq_right (by omega), show a - i = 1 by omega]
          cases l.drop i <;> simp
        · rw [Nat.min_eq_left h2]; exact hne b hb2
      rw [hr]
      exact qC_none _ (take2_space 47 47 (by decide) (by decide) (hv 47 (.inl rfl))) (take2_space 47 42 (by decide) (by decide) (hv 42 (.inr rfl)))
    have hb' : qRun 7 (l'.drop i) = 0 := by
      rw [hr, hx, List.cons_append, qRun, if_neg]
      intro hq
      cases hd : l.drop i with
      | nil => rw [hd] at hhead; simp at hhead
      | cons y z =>
        rw [hd] at hhead hb
        simp at hhead; subst hhead
        rw [qRun, if_pos hq] at hb; omega
    have hlong : qLongest ((l'.drop i).take 100) op = qLongest ((l.drop i).take 100) op := by
      rw [hr, longest_space, List.take_take, Nat.min_comm, ← List.take_take]
      obtain ⟨K, N, hKN⟩ : ∃ K N, qLongest ((l.drop i).take 100) op = (K, N) := ⟨_, _, rfl⟩
      rw [hKN] at hn h1 ⊢
      simp only at hn h1
      refine longest_pre hKN (by omega) ?_
      intro c g1 g2 g3 g4
      rcases Nat.lt_or_ge (a - i) 100 with h2 | h2
      · rw [get_pre _ _ _ (by omega), List.getElem?_drop] at g1 g2
        refine h.colon c (by rw [← g1]; congr 1; omega) (by rw [← g2]; congr 1; omega) (by omega) ?_
        obtain ⟨b, g5, g6⟩ := g4
        rw [get_pre _ _ _ (by omega), List.getElem?_drop] at g5
        exact ⟨b, by rw [← g5]; congr 1; omega, g6⟩
      · rw [List.getElem?_eq_none (by rw [List.length_take]; omega)] at g2; cases g2
    rw [he, qNext_c op (by rw [hc']) (by rw [hc']; simp) (by omega), hlong, h.check (by omega) hn hck, if_neg (by simp)]

/-- A comment ahead of the place is the same, unless it goes to the end of its line there. -/
theorem Put.comment {l l' : Bs} {a i : Nat} {op : Bool} (h : Put l l' a) (h0 : (qNext l i op).er = 0) (hk : (qNext l i op).kind = 8) (hn : i + (qNext l i op).len ≤ a) (hl : i + (qNext l i op).len = a → l[i + 1]? ≠ some 47) : qNext l' i op = qNext l i op := by
  obtain ⟨c0, ⟨hp, he⟩ | ⟨hp, hb, he⟩ | ⟨hp, hb, he, hck⟩⟩ := comment_kind h0
  · rw [he] at hn hl
    simp only at hn hl
    have hle := h.le
    have hM := drop_take_eq i h.pre
    have hlen2 : 2 ≤ a - i := by
      unfold qComment at c0 hp hn
      split at hn
      · rename_i ht
        rw [if_pos ht] at hp
        simp only at hn hp
        match hd : l.drop i, ht with
        | [], ht => simp at ht
        | [y], ht => simp at ht
        | y :: z :: w, ht =>
          have hll := congrArg List.length hd
          simp only [List.length_drop, List.length_cons] at hll
          rw [hd] at hn hp
          simp at ht
          obtain ⟨rfl, rfl⟩ := ht
          split at hn
          · rename_i hge
            rcases Nat.lt_or_ge (a - i) 2 with h2 | h2
            · exfalso
              have hx := index_at _ 10 hge
              have : (Lib.indexByte (47 :: 47 :: w) 10).toNat = 1 := by rw [if_pos hge] at hp; omega
              rw [this] at hx; simp at hx
            · exact h2
          · simp only [List.length_cons] at hn; omega
      · rename_i ht
        split at hn
        · rename_i ht2
          rw [if_neg ht, if_pos ht2] at c0
          have := nest_ge (l.drop i) 0 0 c0
          have hn' : i + (qNestGo (l.drop i) 0 0).2 ≤ a := hn
          omega
        · rename_i ht2
          rw [if_neg ht, if_neg ht2] at hp
          simp at hp
    have hc : qComment (l'.drop i) = qComment (l.drop i) := by
      have ht := take_of_take hM hlen2
      unfold qComment at c0 hn hl ⊢
      rw [ht]
      split
      · rename_i hcc
        rw [if_pos hcc] at hn hl
        simp only at hn hl
        have h47 : l[i + 1]? = some 47 := by
          have : (l.drop i)[1]? = some 47 := by
            match hd : l.drop i, hcc with
            | [], hcc => simp at hcc
            | [y], hcc => simp at hcc
            | y :: z :: w, hcc => simp at hcc; simp [hcc]
          rwa [List.getElem?_drop] at this
        split at hn
        · rename_i hge
          rw [if_pos hge] at hl
          have hlt : i + (Lib.indexByte (l.drop i) 10).toNat ≠ a := fun e => hl e h47
          rw [indexByte_agree 10 (l.drop i) (l'.drop i) (a - i) hM.symm hge (by omega)]
          simp only [hge, if_true]
        · rename_i hge
          rw [if_neg hge] at hl
          exfalso
          rw [List.length_drop] at hn hl
          exact hl (by omega) h47
      · rename_i h1
        split
        · rename_i h2
          rw [if_neg h1, if_pos h2] at c0 hn
          exact nest_agree (l.drop i) 0 0 (l'.drop i) (a - i) hM.symm c0 (by have : i + (qNestGo (l.drop i) 0 0).2 ≤ a := hn; omega)
        · rfl
    rw [he, qNext_a op (by rw [hc]; exact c0) (by rw [hc]; exact hp), hc]
  · rw [he] at hk; simp at hk
  · obtain ⟨_, h6⟩ := qLongest_le ((l.drop i).take 100) op
    rw [he] at hk; simp only at hk; omega

/-- Blanks ahead of the place are the same, unless they end there. -/
theorem Put.blank {l l' : Bs} {a i : Nat} {op : Bool} (h : Put l l' a) (h0 : (qNext l i op).er = 0) (hk : (qNext l i op).kind = 7) (hn : i + (qNext l i op).len < a) : qNext l' i op = qNext l i op := by
  obtain ⟨c0, ⟨hp, he⟩ | ⟨hp, hb, he⟩ | ⟨hp, hb, he, hck⟩⟩ := comment_kind h0
  · rw [he] at hk; simp at hk
  · rw [he] at hn
    simp only at hn
    have hM := drop_take_eq i h.pre
    have hq := qRun_agree 7 (l.drop i) (l'.drop i) (a - i) hM.symm (by omega)
    have hc := blank_comment (l'.drop i) (by omega)
    rw [he, qNext_b op (by rw [hc]) (by rw [hc]; simp) (by omega), hq]
  · obtain ⟨_, h6⟩ := qLongest_le ((l.drop i).take 100) op
    rw [he] at hk; simp only at hk; omega
end Go.Proofs.YtdfkkeeohbgmbaaDoor
