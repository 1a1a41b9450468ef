/- Package fragment: the list of one reading behind that of another, a part of a reading; the reference's Size and Ends. -/
import Derived.Test.YtopbmndjnjnmcaaGreatDoorBT
namespace Go.Proofs.YtopbmndjnjnmcaaGreatDoor
open Go.RowKit Lx
/- (P11) -/
section
variable {ts us : List Tok} {ws : List ByteArray}
/-- A run in which nothing is dropped. -/
def ND (ts : List Tok) (ws : List ByteArray) (n : Nat) (s : Rst) : Prop := (emit ts ws n s).length + s.at_ = ts.length
theorem Run.nd (hc0 : clo ws [] = none) {sf s : Rst} {n : Nat} (h : Run ts ws sf n s) (hn : ND ts ws n s) (hl : s.at_ < ts.length) : ∃ t s1 m, n = m + 1 ∧ ts[s.at_]? = some t ∧ tokOk t = true ∧ pTake ts ws s = .ok s1 ∧ s1.at_ = s.at_ ∧ Run ts ws sf m (adv s1) ∧ ND ts ws m (adv s1) := by
  obtain ⟨t, s1, m, hm, ht, hok, hp, he, hr⟩ := h.step hc0 hl
  have h1 := (hr.em hc0).2
  have h2 := pTake_lt hp hl
  obtain ⟨_, _, _, _, _, h3⟩ := step_inv hc0 h.inv ht hok hp
  unfold ND at hn ⊢
  rw [he, List.length_cons] at hn
  have e : (adv s1).at_ = s1.at_ + 1 := rfl
  rw [e] at h1
  exact ⟨t, s1, m, hm, ht, hok, hp, by omega, hr, by rw [e]; omega⟩
theorem repeats_shape {op : ByteArray} {kids : List Fr} {names : List ByteArray} (h : names ∈ repeats op kids) : (∃ a, names = [a]) ∨ ∃ b, names = [op, b] := by
  unfold repeats at h
  rcases List.mem_cons.1 h with rfl | h
  · exact .inl ⟨op, rfl⟩
  · cases kids with
    | nil => cases h
    | cons f r =>
      simp only at h
      split at h
      · rcases List.mem_cons.1 h with rfl | h
        · exact .inl ⟨_, rfl⟩
        · rcases List.mem_cons.1 h with rfl | h
          · exact .inr ⟨_, rfl⟩
          · cases h
      · cases h
theorem op_mem (op : ByteArray) (kids : List Fr) : [op] ∈ repeats op kids := List.mem_cons_self
theorem get_app {i : Nat} (h : i < ts.length) : (ts ++ us)[i]? = ts[i]? := List.getElem?_append_left h
theorem nextAre_one {l : List Tok} {i : Nat} {a : ByteArray} : nextAre l i [a] = true ↔ (l[i + 1]?).map tK = some (1, a) := by
  rw [nextAre_hd]; exact ⟨fun h => h.1, fun h => ⟨h, rfl⟩⟩
theorem stops_end {l : List Tok} {i : Nat} (h : l.length ≤ i) : stopsAt l i = true := by
  unfold stopsAt; rw [List.getElem?_eq_none h]
/-- **A STEP IS THE SAME IF MORE FOLLOWS.** -/
theorem ext_step (hc0 : clo ws [] = none) {sf s : Rst} {n : Nat} (h : Run ts ws sf n s) (hn : ND ts ws n s) (hl : s.at_ < ts.length) (hsf : sf.stk = []) (hends : ∀ f, sf.g.kids.getLast? = some f → clo ws f.op.toList ≠ some true) :
    pTake (ts ++ us) ws s = pTake ts ws s := by
  obtain ⟨t, s1, m, hm, ht, hok, hp, hat, hr, hn1⟩ := h.nd hc0 hn hl
  have ht2 : (ts ++ us)[s.at_]? = some t := by rw [get_app hl]; exact ht
  have hlast : s.at_ + 1 = ts.length → sf = adv s1 := fun e => (hr.done (by show ts.length ≤ s1.at_ + 1; omega)).1
  have hE : pEnd (ts ++ us) s = pEnd ts s := by unfold pEnd; rw [ht2, ht]
  have hopn : pOpens ts ws s t = true → s1.stk = s.g :: s.stk → pOpens (ts ++ us) ws s t = pOpens ts ws s t := fun ho hk => by
    have hlt : s.at_ + 1 < ts.length := by
      rcases Nat.lt_or_ge (s.at_ + 1) ts.length with h | h
      · exact h
      · have := hlast (by omega)
        rw [this] at hsf
        rw [show (adv s1).stk = s1.stk from rfl, hk] at hsf
        cases hsf
    unfold pOpens
    simp only [nextAre, get_app hlt]
  have hopf : pOpens ts ws s t = false → pOpens (ts ++ us) ws s t = false := fun ho => by
    rcases Nat.lt_or_ge (s.at_ + 1) ts.length with hlt | hge
    · unfold pOpens at ho ⊢
      simp only [nextAre, get_app hlt] at ho ⊢
      exact ho
    · unfold pOpens at ho ⊢
      have : nextAre ts s.at_ [tSlot] = false := by
        simp only [nextAre, List.getElem?_eq_none hge, Bool.false_and]
      rw [this] at ho
      cases h1 : (clo ws t.text.toList).isSome with
      | false => rfl
      | true =>
        rw [h1] at ho
        simp only [Bool.not_false, Bool.or_true, Bool.and_true, Bool.true_and] at ho
        rw [ho]
        rfl
  rcases pTake_cases ht hp with ⟨hcl, g2, rest, h1, h2, h3, h4, h5⟩ | ⟨hcl, h1, h2, rfl⟩ | ⟨hcl, h1, rfl⟩
  · unfold pTake
    rw [ht2, ht]
    simp only
    rw [hcl, if_pos rfl, if_pos rfl]
    rcases h5 with ⟨hcl2, _⟩ | ⟨hcl2, h5⟩
    · rw [hcl2]; exact hE
    · rw [hcl2]
      simp only
      have hd : dropN ts s = none := by
        rcases h5 with ⟨hd, _⟩ | ⟨names, hd, hx⟩
        · exact hd
        · exfalso
          unfold dropN at hd
          rcases repeats_shape (List.mem_of_find?_eq_some hd) with ⟨a, rfl⟩ | ⟨b, rfl⟩
          · simp only [List.length_cons, List.length_nil] at hx; omega
          · simp only [List.length_cons, List.length_nil] at hx; omega
      have hd2 : dropN (ts ++ us) s = none := by
        have hd1 := hd
        unfold dropN at hd1 ⊢
        rw [List.find?_eq_none] at hd1 ⊢
        intro names hnm hpr
        have hno := hd1 names hnm
        have hop := hd1 _ (op_mem s.g.op s.g.kids)
        simp only [Bool.and_eq_true] at hpr hno hop
        obtain ⟨p1, p2⟩ := hpr
        have hlt : s.at_ + 1 < ts.length := by
          rcases Nat.lt_or_ge (s.at_ + 1) ts.length with h | h
          · exact h
          · exfalso
            have hsa := hlast (by omega)
            have hr0 : rest = [] := by rw [← h4]; rw [hsa] at hsf; exact hsf
            refine hends (.mk s.g.tok s.g.op s.g.kids) ?_ hcl2
            rw [hsa]
            show s1.g.kids.getLast? = _
            rw [h3]
            simp [addF]
        rcases repeats_shape hnm with ⟨a, rfl⟩ | ⟨b, rfl⟩
        · have q1 : nextAre ts s.at_ [a] = true := by
            rw [nextAre_one] at p1 ⊢
            rw [get_app hlt] at p1; exact p1
          refine hno ⟨q1, ?_⟩
          simp only [List.length_cons, List.length_nil, Nat.zero_add] at p2 ⊢
          rcases Nat.lt_or_ge (s.at_ + 1 + 1) ts.length with h | h
          · rw [stopsAt_K (l2 := ts) (j := s.at_ + 1 + 1) (by rw [get_app h])] at p2; exact p2
          · exact stops_end h
        · obtain ⟨r1, r2⟩ := nextAre_hd.1 p1
          rw [get_app hlt] at r1
          rcases Nat.lt_or_ge (s.at_ + 1 + 1) ts.length with h | h
          · have q1 : nextAre ts s.at_ [s.g.op, b] = true := by
              refine nextAre_hd.2 ⟨r1, ?_⟩
              rw [nextAre_one] at r2 ⊢
              rw [get_app h] at r2; exact r2
            refine hno ⟨q1, ?_⟩
            simp only [List.length_cons, List.length_nil, Nat.zero_add, Nat.reduceAdd] at p2 ⊢
            rcases Nat.lt_or_ge (s.at_ + 1 + 2) ts.length with h' | h'
            · rw [stopsAt_K (l2 := ts) (j := s.at_ + 1 + 2) (by rw [get_app h'])] at p2; exact p2
            · exact stops_end h'
          · exact hop ⟨nextAre_one.2 r1, stops_end (by simpa using h)⟩
      unfold pNamed
      rw [hE]
      unfold dropN at hd hd2
      rw [hd, hd2]
  · have ho := hopn h1 rfl
    unfold pTake
    rw [ht2, ht]
    simp only
    rw [hcl]
    simp only [Bool.false_eq_true, if_false]
    rw [ho]
  · have ho := hopf h1
    unfold pTake
    rw [ht2, ht]
    simp only
    rw [hcl]
    simp only [Bool.false_eq_true, if_false]
    rw [ho, h1]
theorem ext_go (hc0 : clo ws [] = none) {sf : Rst} (hsf : sf.stk = []) (hends : ∀ f, sf.g.kids.getLast? = some f → clo ws f.op.toList ≠ some true) : ∀ {n : Nat} {s : Rst}, Run ts ws sf n s → ND ts ws n s → ∀ n2, pGo (ts ++ us) ws (ts.length - s.at_ + n2) s = pGo (ts ++ us) ws n2 sf
  | 0, s, h, hn, n2 => by
    obtain ⟨rfl, _⟩ := h.done h.fuel
    rw [show ts.length - sf.at_ = 0 by have := h.fuel; omega, Nat.zero_add]
  | n + 1, s, h, hn, n2 => by
    by_cases hl : s.at_ < ts.length
    · have hx := ext_step (us := us) hc0 h hn hl hsf hends
      obtain ⟨t, s1, m, hm, ht, hok, hp, hat, hr, hn1⟩ := h.nd hc0 hn hl
      obtain rfl : n = m := by omega
      have ih := ext_go hc0 hsf hends hr hn1 n2
      rw [show (adv s1).at_ = s.at_ + 1 by show s1.at_ + 1 = _; rw [hat]] at ih
      rw [show ts.length - s.at_ + n2 = (ts.length - (s.at_ + 1) + n2) + 1 by omega]
      simp only [pGo]
      rw [if_pos (by rw [List.length_append]; omega), show pCheck (ts ++ us) s.at_ = true by unfold pCheck; rw [get_app hl, ht]; exact hok, if_pos rfl, hx, hp]
      exact ih
    · obtain ⟨rfl, _⟩ := h.done (by omega)
      rw [show ts.length - sf.at_ = 0 by omega, Nat.zero_add]
end
/- (P12) -/
section
variable {ts tt : List Tok} {ws : List ByteArray}
/-- Steps of a run in which nothing is dropped, and no group with so many around it is closed. -/
inductive Path (ts : List Tok) (ws : List ByteArray) (sf : Rst) (d : Nat) : Nat → Rst → Nat → Rst → Prop
  | refl (n : Nat) (s : Rst) : Path ts ws sf d n s n s
  | step {m nL : Nat} {s s1 sL : Rst} {t : Tok} (ht : ts[s.at_]? = some t) (hok : tokOk t = true) (hp : pTake ts ws s = .ok s1) (hat : s1.at_ = s.at_) (hr : Run ts ws sf m (adv s1)) (hn : ND ts ws m (adv s1))
      (hd : isCl t = true → d < s.stk.length) (h : Path ts ws sf d m (adv s1) nL sL) : Path ts ws sf d (m + 1) s nL sL
theorem Path.at_le {sf : Rst} {d n nL : Nat} {s sL : Rst} (h : Path ts ws sf d n s nL sL) : s.at_ ≤ sL.at_ := by
  induction h with
  | refl n s => exact Nat.le_refl _
  | @step m nL s s1 sL t ht hok hp hat hr hn hd h ih =>
    have : (adv s1).at_ = s1.at_ + 1 := rfl
    omega
theorem stk_step {s s1 : Rst} {t : Tok} (ht : ts[s.at_]? = some t) (hp : pTake ts ws s = .ok s1) : (isCl t = true ∧ s1.stk.length + 1 = s.stk.length) ∨ (isCl t = false ∧ s.stk.length ≤ s1.stk.length) := by
  rcases pTake_cases ht hp with ⟨hcl, g2, rest, h1, _, _, h4, _⟩ | ⟨hcl, _, _, rfl⟩ | ⟨hcl, _, rfl⟩
  · exact .inl ⟨hcl, by rw [h1, h4]; rfl⟩
  · exact .inr ⟨hcl, by simp⟩
  · exact .inr ⟨hcl, Nat.le_refl _⟩
/-- **EVERY OPEN GROUP IS CLOSED.** -/
theorem close_at (hc0 : clo ws [] = none) {sf : Rst} {d : Nat} (hd1 : 1 ≤ d) (hsf : sf.stk = []) : ∀ {n : Nat} {s : Rst}, Run ts ws sf n s → ND ts ws n s → d ≤ s.stk.length →
    ∃ nL sL t, Path ts ws sf d n s nL sL ∧ Run ts ws sf nL sL ∧ ND ts ws nL sL ∧ sL.stk.length = d ∧ ts[sL.at_]? = some t ∧ isCl t = true
  | 0, s, h, _, hd => by
    obtain ⟨rfl, _⟩ := h.done h.fuel
    rw [hsf] at hd
    simp at hd; omega
  | n + 1, s, h, hn, hd => by
    by_cases hl : s.at_ < ts.length
    · obtain ⟨t, s1, m, hm, ht, hok, hp, hat, hr, hn1⟩ := h.nd hc0 hn hl
      obtain rfl : n = m := by omega
      by_cases hstop : isCl t = true ∧ s.stk.length = d
      · exact ⟨n + 1, s, t, .refl _ _, h, hn, hstop.2, ht, hstop.1⟩
      · have hlen : d ≤ (adv s1).stk.length := by
          show d ≤ s1.stk.length
          rcases stk_step ht hp with ⟨h1, h2⟩ | ⟨_, h2⟩
          · have : s.stk.length ≠ d := fun e => hstop ⟨h1, e⟩
            omega
          · omega
        obtain ⟨nL, sL, tL, hP, h1⟩ := close_at hc0 hd1 hsf hr hn1 hlen
        exact ⟨nL, sL, tL, .step ht hok hp hat hr hn1 (fun hc => by
          have : s.stk.length ≠ d := fun e => hstop ⟨hc, e⟩
          omega) hP, h1⟩
    · obtain ⟨rfl, _⟩ := h.done (by omega)
      rw [hsf] at hd
      simp at hd; omega

/-- The groups above a bottom are the same; the bottoms have the same further fragments. -/
def BR (d d' : Nat) (K0 K0' : List Fr) (l l' : List Grp) : Prop :=
  ∃ x x' b b' low low' kk, l = x ++ b :: low ∧ l' = x' ++ b' :: low' ∧ x.map er = x'.map er ∧ low.length = d ∧ low'.length = d' ∧ b.kids = K0 ++ kk ∧ b'.kids = K0' ++ kk ∧ (b.op.toList == tMacro.toList) = false ∧ (b'.op.toList == tMacro.toList) = false
/-- What two lists of tokens look like up to an index. -/
structure LA (ts tt : List Tok) (lim p q : Nat) : Prop where
  same : ∀ i, i < lim → q ≤ i + p → tt[i + p - q]? = ts[i]?
  names : ∀ i, i < lim → q ≤ i + p → ∀ names, Names2 names → (nextAre tt (i + p - q) names && stopsAt tt (i + p - q + 1 + names.length)) = (nextAre ts i names && stopsAt ts (i + 1 + names.length))
  slot : ∀ i, i < lim → q ≤ i + p → nextAre tt (i + p - q) [tSlot] = nextAre ts i [tSlot]
theorem mac_er {g g' : Grp} (h : er g = er g') : g.tok = g'.tok ∧ g.op = g'.op ∧ g.kids = g'.kids := by
  unfold er at h
  simp only [Prod.mk.injEq] at h
  exact ⟨h.1, h.2.1, h.2.2⟩
theorem BR.addTop {d d' : Nat} {K0 K0' : List Fr} {g g' : Grp} {r r' : List Grp} (F : Fr) (h : BR d d' K0 K0' (g :: r) (g' :: r')) : BR d d' K0 K0' (addF g F :: r) (addF g' F :: r') := by
  obtain ⟨x, x', b, b', low, low', kk, e1, e2, e3, e4, e4', e5, e6, e7, e8⟩ := h
  cases x with
  | nil =>
    cases x' with
    | cons a c => simp at e3
    | nil =>
      simp only [List.nil_append, List.cons.injEq] at e1 e2
      obtain ⟨rfl, rfl⟩ := e1
      obtain ⟨rfl, rfl⟩ := e2
      exact ⟨[], [], addF g F, addF g' F, r, r', kk ++ [F], rfl, rfl, rfl, e4, e4', by show g.kids ++ [F] = _; rw [e5, List.append_assoc], by show g'.kids ++ [F] = _; rw [e6, List.append_assoc], e7, e8⟩
  | cons a c =>
    cases x' with
    | nil => simp at e3
    | cons a' c' =>
      simp only [List.cons_append, List.cons.injEq] at e1 e2
      obtain ⟨rfl, rfl⟩ := e1
      obtain ⟨rfl, rfl⟩ := e2
      simp only [List.map_cons, List.cons.injEq] at e3
      obtain ⟨m1, m2, m3⟩ := mac_er e3.1
      exact ⟨addF g F :: c, addF g' F :: c', b, b', low, low', kk, rfl, rfl, by rw [List.map_cons, List.map_cons, e3.2]; congr 1; unfold er addF; simp only [m1, m2, m3], e4, e4', e5, e6, e7, e8⟩
theorem BR.push {d d' : Nat} {K0 K0' : List Fr} {r r' : List Grp} {g g' : Grp} (hg : er g = er g') (h : BR d d' K0 K0' r r') : BR d d' K0 K0' (g :: r) (g' :: r') := by
  obtain ⟨x, x', b, b', low, low', kk, e1, e2, e3, e4, e4', e5, e6, e7, e8⟩ := h
  exact ⟨g :: x, g' :: x', b, b', low, low', kk, by rw [e1]; rfl, by rw [e2]; rfl, by rw [List.map_cons, List.map_cons, e3, hg], e4, e4', e5, e6, e7, e8⟩
theorem BR.pop {d d' : Nat} {K0 K0' : List Fr} {g g' : Grp} {r r' : List Grp} (h : BR d d' K0 K0' (g :: r) (g' :: r')) (hd : d < r.length) : er g = er g' ∧ BR d d' K0 K0' r r' := by
  obtain ⟨x, x', b, b', low, low', kk, e1, e2, e3, e4, e4', e5, e6, e7, e8⟩ := h
  cases x with
  | nil =>
    simp only [List.nil_append, List.cons.injEq] at e1
    rw [e1.2, e4] at hd
    omega
  | cons a c =>
    cases x' with
    | nil => simp at e3
    | cons a' c' =>
      simp only [List.cons_append, List.cons.injEq] at e1 e2
      simp only [List.map_cons, List.cons.injEq] at e3
      rw [e1.1, e2.1]
      exact ⟨e3.1, c, c', b, b', low, low', kk, e1.2, e2.2, e3.2, e4, e4', e5, e6, e7, e8⟩
theorem BR.ne {d d' : Nat} {K0 K0' : List Fr} {r r' : List Grp} (h : BR d d' K0 K0' r r') : r' ≠ [] := by
  obtain ⟨x, x', b, b', low, low', kk, e1, e2, _⟩ := h
  rw [e2]; simp
theorem BR.first {ws : List ByteArray} {d d' : Nat} {K0 K0' : List Fr} {s s' : Rst} (h : BR d d' K0 K0' (s.g :: s.stk) (s'.g :: s'.stk)) (hi : Inv ws s) (hi' : Inv ws s') : ((s'.g.op.toList == tMacro.toList) && (s'.g.from_ == (s'.at_ : Int) - 1)) = ((s.g.op.toList == tMacro.toList) && (s.g.from_ == (s.at_ : Int) - 1)) := by
  obtain ⟨x, x', b, b', low, low', kk, e1, e2, e3, e4, e4', e5, e6, e7, e8⟩ := h
  rw [first_eq hi, first_eq hi']
  cases x with
  | nil =>
    cases x' with
    | cons a c => simp at e3
    | nil =>
      simp only [List.nil_append, List.cons.injEq] at e1 e2
      rw [e1.1, e2.1, e7, e8]; rfl
  | cons a c =>
    cases x' with
    | nil => simp at e3
    | cons a' c' =>
      simp only [List.cons_append, List.cons.injEq] at e1 e2
      simp only [List.map_cons, List.cons.injEq] at e3
      obtain ⟨m1, m2, m3⟩ := mac_er e3.1
      rw [e1.1, e2.1, m2, m3]
/-- **THE SAME STEPS ELSEWHERE.** -/
theorem sim_path (hc0 : clo ws [] = none) {sf : Rst} {d d' lim p q : Nat} {K0 K0' : List Fr} (hla : LA ts tt lim p q) {n nL : Nat} {s sL : Rst} (hP : Path ts ws sf d n s nL sL) :
    ∀ (s' : Rst), Inv ws s → Inv ws s' → sL.at_ = lim → q ≤ s.at_ + p → s'.at_ = s.at_ + p - q → BR d d' K0 K0' (s.g :: s.stk) (s'.g :: s'.stk) → s'.stk.length ≤ s.stk.length →
      ∃ sL', BR d d' K0 K0' (sL.g :: sL.stk) (sL'.g :: sL'.stk) ∧ Inv ws sL ∧ Inv ws sL' ∧ sL'.at_ = sL.at_ + p - q ∧ sL'.stk.length ≤ sL.stk.length ∧ ∀ n2, pGo tt ws (sL.at_ - s.at_ + n2) s' = pGo tt ws n2 sL' := by
  induction hP with
  | refl n s =>
    intro s' hi hi' hlim hq ha hb hsl
    exact ⟨s', hb, hi, hi', ha, hsl, fun n2 => by rw [Nat.sub_self, Nat.zero_add]⟩
  | @step m nL s s1 sL t ht hok hp hat hr hn hd hP ih =>
    intro s' hi hi' hlim hq ha hb hsl
    have hle := hP.at_le
    have hadv : (adv s1).at_ = s1.at_ + 1 := rfl
    have hlt : s.at_ < lim := by omega
    have ht' : tt[s'.at_]? = some t := by rw [ha, hla.same _ hlt hq]; exact ht
    have hnames := hla.names _ hlt hq
    have hslot := hla.slot _ hlt hq
    rw [← ha] at hnames hslot
    have hopn : pOpens tt ws s' t = pOpens ts ws s t := by
      unfold pOpens
      rw [hslot, Bool.and_assoc, Bool.and_assoc, hb.first hi hi']
    have main : ∃ s1', pTake tt ws s' = .ok s1' ∧ s1'.at_ = s'.at_ ∧ BR d d' K0 K0' (s1.g :: s1.stk) (s1'.g :: s1'.stk) ∧ s1'.stk.length ≤ s1.stk.length := by
      rcases pTake_cases ht hp with ⟨hcl, g2, rest, h1, h2, h3, h4, h5⟩ | ⟨hcl, h1, h2, rfl⟩ | ⟨hcl, h1, rfl⟩
      · obtain ⟨her, hb2⟩ := hb.pop (hd hcl)
        obtain ⟨m1, m2, m3⟩ := mac_er her
        cases hk' : s'.stk with
        | nil => exact absurd hk' hb2.ne
        | cons g2' rest' =>
          rw [h1, hk'] at hb2
          have hend : pEnd tt s' = .ok ⟨s'.at_, addF g2' (.mk s.g.tok s.g.op s.g.kids), rest'⟩ := by
            unfold pEnd
            rw [hk', ht']
            simp only
            rw [← m1, ← m2, ← m3, if_neg (by rw [h2]; simp)]
          refine ⟨⟨s'.at_, addF g2' (.mk s.g.tok s.g.op s.g.kids), rest'⟩, ?_, rfl, by rw [h3, h4]; exact hb2.addTop _, by
            show rest'.length ≤ s1.stk.length
            rw [h4]
            rw [h1, hk'] at hsl
            simpa using hsl⟩
          unfold pTake
          rw [ht']
          simp only
          rw [hcl, if_pos rfl]
          rcases h5 with ⟨hcl2, _⟩ | ⟨hcl2, h5⟩
          · rw [show clo ws s'.g.op.toList = some false by rw [← m2]; exact hcl2]
            exact hend
          · rw [show clo ws s'.g.op.toList = some true by rw [← m2]; exact hcl2]
            simp only
            have hdrop : dropN ts s = none := by
              rcases h5 with ⟨h6, _⟩ | ⟨names, h6, h7⟩
              · exact h6
              · exfalso
                unfold dropN at h6
                rcases repeats_shape (List.mem_of_find?_eq_some h6) with ⟨a, rfl⟩ | ⟨b, rfl⟩
                · simp only [List.length_cons, List.length_nil] at h7; omega
                · simp only [List.length_cons, List.length_nil] at h7; omega
            have hdrop2 : (repeats s'.g.op s'.g.kids).find? (fun names => nextAre tt s'.at_ names && stopsAt tt (s'.at_ + 1 + names.length)) = none := by
              rw [← m2, ← m3, List.find?_eq_none]
              intro names hnm
              unfold dropN at hdrop
              rw [List.find?_eq_none] at hdrop
              have := hdrop names hnm
              rw [hnames names (repeats_names (clo_true hcl2) (fun f hf => hi.gi.kid s.g List.mem_cons_self f hf) hnm)]
              exact this
            unfold pNamed
            rw [hend]
            simp only
            rw [hdrop2]
      · have hln : s'.stk.length + 1 ≤ 100 := by omega
        refine ⟨⟨s'.at_, ⟨t, t.text, [], s'.at_⟩, s'.g :: s'.stk⟩, ?_, rfl, hb.push rfl, by simpa using hsl⟩
        unfold pTake
        rw [ht']
        simp only
        rw [hcl, hopn, h1]
        simp only [Bool.false_eq_true, if_false, if_true]
        rw [if_neg (by omega)]
      · refine ⟨⟨s'.at_, addF s'.g (.mk t ⟨#[]⟩ []), s'.stk⟩, ?_, rfl, hb.addTop _, hsl⟩
        unfold pTake
        rw [ht']
        simp only
        rw [hcl, hopn, h1]
        simp only [Bool.false_eq_true, if_false]
    obtain ⟨s1', hp', hat', hb1, hsl1⟩ := main
    obtain ⟨hi1, _⟩ := step_inv hc0 hi ht hok hp
    obtain ⟨hi1', _⟩ := step_inv hc0 hi' ht' hok hp'
    have hadv' : (adv s1').at_ = s1'.at_ + 1 := rfl
    obtain ⟨sL', r1, r2, r3, r4, r5, r6⟩ := ih (adv s1') hi1 hi1' hlim (by omega) (by omega) hb1 hsl1
    refine ⟨sL', r1, r2, r3, r4, r5, fun n2 => ?_⟩
    rw [← r6 n2, show sL.at_ - s.at_ + n2 = (sL.at_ - (adv s1).at_ + n2) + 1 by omega]
    simp only [pGo]
    rw [if_pos (List.getElem?_eq_some_iff.1 ht').1, show pCheck tt s'.at_ = true by unfold pCheck; rw [ht']; exact hok, if_pos rfl, hp']
    rfl
end
/- (P13) -/
section
variable {ts us : List Tok} {ws : List ByteArray}
theorem Run.at_end {sf : Rst} (hc0 : clo ws [] = none) : ∀ {n : Nat} {s : Rst}, Run ts ws sf n s → s.at_ ≤ ts.length → sf.at_ = ts.length
  | 0, s, h, hl => by
    obtain ⟨rfl, _⟩ := h.done h.fuel
    have := h.fuel; omega
  | n + 1, s, h, hl => by
    by_cases hlt : s.at_ < ts.length
    · obtain ⟨t, s1, m, hm, ht, hok, hp, _, hr⟩ := h.step hc0 hlt
      obtain rfl : n = m := by omega
      have h2 := pTake_lt hp hlt
      exact Run.at_end hc0 hr (by show s1.at_ + 1 ≤ _; omega)
    · obtain ⟨rfl, _⟩ := h.done (by omega)
      omega
/-- The run of what is read. -/
theorem run_of {l : List Fr} (h : pRead ts ws = .ok l) : okWords ws = true ∧ clo ws [] = none ∧ ts.length ≤ 6000 ∧ ∃ sf, Run ts ws sf ts.length st0 ∧ sf.stk = [] ∧ sf.g.kids = l ∧ emit ts ws ts.length st0 = toksU l ∧ sf.at_ = ts.length ∧ sf.g.op = ⟨#[]⟩ := by
  unfold pRead at h
  split at h
  · cases h
  · rename_i hw
    split at h
    · cases h
    · have hok : okWords ws = true := by simpa using hw
      have hc0 := clo_nil hok
      unfold pRead0 at h
      split at h
      · cases h
      · rename_i sf hg
        split at h
        · rename_i hsk
          cases h
          have hsk0 : sf.stk = [] := List.eq_nil_of_length_eq_zero hsk
          have hr : Run ts ws sf ts.length st0 := ⟨hg, by simp [st0], st0_inv ws⟩
          obtain ⟨e1, _⟩ := hr.em hc0
          rw [hsk0] at e1
          have e3 : toksU sf.g.kids = emit ts ws ts.length st0 := by
            have : emL (st0.g :: st0.stk) = [] := by simp [emL, st0, toksU]
            rw [this, List.nil_append] at e1
            exact e1
          refine ⟨hok, hc0, by omega, sf, hr, hsk0, rfl, e3.symm, hr.at_end hc0 (Nat.zero_le _), ?_⟩
          have := hr.DL hc0
          have hi : Inv ws sf := by
            have key : ∀ {n : Nat} {s : Rst}, Run ts ws sf n s → Inv ws sf := fun {n} => by
              induction n with
              | zero => intro s h; obtain ⟨rfl, _⟩ := h.done h.fuel; exact h.inv
              | succ n ih =>
                intro s h
                by_cases hl : s.at_ < ts.length
                · obtain ⟨t, s1, m, hm, _, _, _, _, hr⟩ := h.step hc0 hl
                  obtain rfl : n = m := by omega
                  exact ih hr
                · obtain ⟨rfl, _⟩ := h.done (by omega)
                  exact h.inv
            exact key hr
          have hgi := hi.gi
          rw [hsk0] at hgi
          exact hgi.base
        · cases h
theorem alike_toks : ∀ (n : Nat) (a b : List Fr), fsz a < n → alikeF true a b = true → (toksU a).length = (toksU b).length ∧ dep a = dep b
  | 0, _, _, h, _ => absurd h (Nat.not_lt_zero _)
  | n + 1, [], b, _, h => by
    cases b with
    | nil => exact ⟨rfl, rfl⟩
    | cons g r => rw [alikeF_len true [] (g :: r) (by simp)] at h; cases h
  | n + 1, f :: r, b, hn, h => by
    cases b with
    | nil => rw [alikeF_len true (f :: r) [] (by simp)] at h; cases h
    | cons g r2 =>
      rw [alikeF_cons] at h
      simp only [Bool.and_eq_true] at h
      obtain ⟨_, h2, h3, h4⟩ := h
      rw [fsz_cons] at hn
      have e2 : f.op.toList = g.op.toList := by simpa using h2
      obtain ⟨k1, k2⟩ := alike_toks n f.kids g.kids (by omega) h3
      obtain ⟨r1, r3⟩ := alike_toks n r r2 (by omega) h4
      rw [toksU_cons, toksU_cons, dep_cons, dep_cons, List.length_append, List.length_append, r1, r3, k2]
      unfold tokFU
      by_cases ho : f.op.toList = []
      · rw [if_pos ho, if_pos (by rw [← e2]; exact ho), if_pos ho, if_pos (by rw [← e2]; exact ho)]
        exact ⟨rfl, rfl⟩
      · rw [if_neg ho, if_neg (by rw [← e2]; exact ho), if_neg ho, if_neg (by rw [← e2]; exact ho)]
        simp [k1]
theorem alikeF_app (loose : Bool) : ∀ (a b c e : List Fr), a.length = b.length → alikeF loose (a ++ c) (b ++ e) = (alikeF loose a b && alikeF loose c e)
  | [], [], c, e, _ => by rw [List.nil_append, List.nil_append, show alikeF loose [] [] = true by rw [alikeF], Bool.true_and]
  | f :: a, g :: b, c, e, h => by
    rw [List.cons_append, List.cons_append, alikeF_cons, alikeF_cons, alikeF_app loose a b c e (by simpa using h)]
    simp only [Bool.and_assoc]
theorem alike_length {a b : List Fr} {loose : Bool} (h : alikeF loose a b = true) : a.length = b.length := by
  rcases Nat.lt_trichotomy a.length b.length with h1 | h1 | h1
  · rw [alikeF_len loose a b (by omega)] at h; cases h
  · exact h1
  · rw [alikeF_len loose a b (by omega)] at h; cases h
/-- What a readable list is, by its run. -/
theorem check_run {a : List Fr} (h : checkP a ws = 0) : okWords ws = true ∧ clo ws [] = none ∧ dep a ≤ 100 ∧ (toksU a).length ≤ 6000 ∧ flatP a = toksU a ∧ sizeP a = (toksU a).length ∧
    ∃ sf a2, Run (toksU a) ws sf (toksU a).length st0 ∧ ND (toksU a) ws (toksU a).length st0 ∧ sf.stk = [] ∧ sf.g.kids = a2 ∧ sf.at_ = (toksU a).length ∧ sf.g.op = ⟨#[]⟩ ∧ alikeF true a2 a = true := by
  obtain ⟨h1, h2, h3, h4, a2, h5, h6⟩ := checkP_ok.1 h
  have hd := depthP_dep a
  have hP : toksP 1 a = toksU a := toksU_P (fsz a + 1) a 1 (Nat.lt_succ_self _) (by omega)
  rw [hP] at h4 h5
  obtain ⟨_, hc0, hl6, sf, hr, hs, hk, he, hat, hop⟩ := run_of h5
  unfold sameP at h6
  simp only [Bool.and_eq_true] at h6
  have hlen := (alike_toks (fsz a2 + 1) a2 a (Nat.lt_succ_self _) h6.2).1
  refine ⟨h1, hc0, by omega, hl6, h4, by unfold sizeP; rw [hP]; omega, sf, a2, hr, ?_, hs, hk, hat, hop, h6.2⟩
  unfold ND
  rw [he, hlen]
  rfl
theorem check_of {a a2 : List Fr} (hw : okWords ws = true) (hd : dep a ≤ 100) (hl : (toksU a).length ≤ 6000) (hr : pRead (toksU a) ws = .ok a2) (ha : alikeF true a2 a = true) : checkP a ws = 0 := by
  have hdp := depthP_dep a
  have hdp2 := depthP_dep a2
  have hP : toksP 1 a = toksU a := toksU_P (fsz a + 1) a 1 (Nat.lt_succ_self _) (by omega)
  have hs : sizeP a = (toksU a).length := by unfold sizeP; rw [hP]; omega
  have e := (alike_toks (fsz a2 + 1) a2 a (Nat.lt_succ_self _) ha).2
  refine checkP_ok.2 ⟨hw, by omega, by omega, ?_, a2, by rw [hP]; exact hr, ?_⟩
  · unfold flatP fitsP
    rw [if_pos (by simp; omega)]
  · unfold sameP
    rw [ha]
    simp; omega
theorem path_full (hc0 : clo ws [] = none) {sf : Rst} : ∀ {n : Nat} {s : Rst}, Run ts ws sf n s → ND ts ws n s → ∃ nL, Path ts ws sf 0 n s nL sf
  | 0, s, h, _ => by
    obtain ⟨rfl, _⟩ := h.done h.fuel
    exact ⟨0, .refl _ _⟩
  | n + 1, s, h, hn => by
    by_cases hl : s.at_ < ts.length
    · obtain ⟨t, s1, m, hm, ht, hok, hp, hat, hr, hn1⟩ := h.nd hc0 hn hl
      obtain rfl : n = m := by omega
      obtain ⟨nL, hP⟩ := path_full hc0 hr hn1
      refine ⟨nL, .step ht hok hp hat hr hn1 (fun hc => ?_) hP⟩
      rcases stk_step ht hp with ⟨_, h2⟩ | ⟨h1, _⟩
      · omega
      · rw [hc] at h1; cases h1
    · obtain ⟨rfl, _⟩ := h.done (by omega)
      exact ⟨_, .refl _ _⟩
theorem nextAre_shift : ∀ (names : List ByteArray) (i : Nat), nextAre (ts ++ us) (i + ts.length) names = nextAre us i names
  | [], _ => rfl
  | nm :: r, i => by
    simp only [nextAre]
    rw [show i + ts.length + 1 = i + 1 + ts.length by omega, nextAre_shift r (i + 1), List.getElem?_append_right (by omega), Nat.add_sub_cancel]
theorem stops_shift (i : Nat) : stopsAt (ts ++ us) (i + ts.length) = stopsAt us i := by
  unfold stopsAt
  rw [List.getElem?_append_right (by omega), Nat.add_sub_cancel]
/-- **TWO READABLE LISTS, ONE BEHIND THE OTHER.** -/
theorem check_app {a b : List Fr} (ha : checkP a ws = 0) (hb : checkP b ws = 0) (hends : ∀ f, a.getLast? = some f → clo ws f.op.toList ≠ some true) (hsz : sizeP a + sizeP b ≤ 6000) : checkP (a ++ b) ws = 0 := by
  obtain ⟨hw, hc0, hda, hla, _, hza, sfa, a2, hra, hna, hsa, hka, hata, hopa, haa⟩ := check_run ha
  obtain ⟨_, _, hdb, hlb, _, hzb, sfb, b2, hrb, hnb, hsb, hkb, hatb, hopb, hbb⟩ := check_run hb
  have hends2 : ∀ f, sfa.g.kids.getLast? = some f → clo ws f.op.toList ≠ some true := fun f hf => by
    rw [hka] at hf
    rcases List.eq_nil_or_concat a with h | ⟨a0, x, h⟩
    · subst h
      have := alike_length haa
      have e : a2 = [] := List.eq_nil_of_length_eq_zero (by simpa using this)
      rw [e] at hf
      cases hf
    · rw [List.concat_eq_append] at h
      rcases List.eq_nil_or_concat a2 with h' | ⟨a20, y, h'⟩
      · subst h'; cases hf
      · rw [List.concat_eq_append] at h'
        subst h'
        subst h
        rw [List.getLast?_concat] at hf
        cases hf
        have hlen := alike_length haa
        rw [alikeF_app true a20 a0 [f] [x] (by simpa using hlen)] at haa
        simp only [Bool.and_eq_true] at haa
        have h2 := haa.2
        rw [alikeF_cons] at h2
        simp only [Bool.and_eq_true, beq_iff_eq] at h2
        rw [h2.2.1]
        exact hends x (by rw [List.getLast?_concat])
  obtain ⟨nL, hP⟩ := path_full hc0 hrb hnb
  have hext := ext_go (us := toksU b) hc0 hsa hends2 hra hna
  have hLA : LA (toksU b) (toksU a ++ toksU b) (toksU b).length (toksU a).length 0 := by
    refine ⟨fun i hi _ => ?_, fun i hi _ names _ => ?_, fun i hi _ => ?_⟩
    · rw [Nat.sub_zero, List.getElem?_append_right (by omega), Nat.add_sub_cancel]
    · rw [Nat.sub_zero, nextAre_shift, show i + (toksU a).length + 1 + names.length = i + 1 + names.length + (toksU a).length by omega, stops_shift]
    · rw [Nat.sub_zero, nextAre_shift]
  have hia : Inv ws sfa := by
    have : ∀ {n : Nat} {s : Rst}, Run (toksU a) ws sfa n s → Inv ws sfa := fun {n} => by
      induction n with
      | zero => intro s h; obtain ⟨rfl, _⟩ := h.done h.fuel; exact h.inv
      | succ n ih =>
        intro s h
        by_cases hl : s.at_ < (toksU a).length
        · obtain ⟨t, s1, m, hm, _, _, _, _, hr⟩ := h.step hc0 hl
          obtain rfl : n = m := by omega
          exact ih hr
        · obtain ⟨rfl, _⟩ := h.done (by omega)
          exact h.inv
    exact this hra
  obtain ⟨sL', r1, _, _, _, r5, r6⟩ := sim_path (d := 0) (d' := 0) (K0 := []) (K0' := a2) hc0 hLA hP sfa (st0_inv ws) hia hatb (Nat.zero_le _) (by rw [hata]; simp [st0]) ⟨[], [], st0.g, sfa.g, [], [], [], rfl, by rw [hsa]; rfl, rfl, rfl, rfl, rfl, by rw [hka, List.append_nil], by rw [show st0.g.op = ⟨#[]⟩ from rfl, nil_toList]; decide +kernel, by rw [hopa, nil_toList]; decide +kernel⟩ (by rw [hsa]; exact Nat.zero_le _)
  have hstk : sL'.stk = [] := List.eq_nil_of_length_eq_zero (by rw [hsb] at r5; simpa using r5)
  obtain ⟨x, x', bb, bb', low, low', kk, e1, e2, e3, e4, e4', e5, e6, _, _⟩ := r1
  have hx : x = [] := by
    have := congrArg List.length e1
    rw [hsb] at this
    simp at this
    exact List.eq_nil_of_length_eq_zero (by omega)
  have hx' : x' = [] := by
    have := congrArg List.length e2
    rw [hstk] at this
    simp at this
    exact List.eq_nil_of_length_eq_zero (by omega)
  subst hx hx'
  simp only [List.nil_append, List.cons.injEq] at e1 e2 e5
  have hkk : kk = b2 := by rw [← e5, ← e1.1, hkb]
  have hread : pRead (toksU (a ++ b)) ws = .ok (a2 ++ b2) := by
    rw [toksU_app]
    unfold pRead
    rw [hw]
    simp only [Bool.true_eq_false, if_false]
    rw [if_neg (by rw [List.length_append]; omega)]
    unfold pRead0
    have h1 := hext ((toksU b).length + 0)
    have h2 := r6 0
    rw [hatb, show st0.at_ = 0 from rfl, Nat.sub_zero] at h2
    rw [h2, show st0.at_ = 0 from rfl, Nat.sub_zero, Nat.add_zero] at h1
    rw [List.length_append, h1]
    simp only [pGo]
    rw [if_pos (by rw [hstk]; rfl), e2.1, e6, hkk]
  refine check_of hw (by rw [dep_app]; omega) (by rw [toksU_app, List.length_append]; omega) hread ?_
  rw [alikeF_app true a2 a b2 b (alike_length haa), haa, hbb]
  rfl
end
/- (P14) -/
section
variable {ts : List Tok} {ws : List ByteArray}
/-- What lies below stays. -/
theorem Path.low {sf : Rst} {d n nL : Nat} {s sL : Rst} (h : Path ts ws sf d n s nL sL) : ∀ (x : List Grp) (b : Grp) (low : List Grp), s.g :: s.stk = x ++ b :: low → low.length = d → ∃ x' b', sL.g :: sL.stk = x' ++ b' :: low ∧ b'.tok = b.tok ∧ b'.op = b.op := by
  induction h with
  | refl n s => intro x b low e _; exact ⟨x, b, e, rfl, rfl⟩
  | @step m nL s s1 sL t ht hok hp hat hr hn hd hP ih =>
    intro x b low e hl
    rcases pTake_cases ht hp with ⟨hcl, g2, rest, h1, h2, h3, h4, h5⟩ | ⟨hcl, h1, h2, rfl⟩ | ⟨hcl, h1, rfl⟩
    · have hdl := hd hcl
      cases x with
      | nil =>
        simp only [List.nil_append, List.cons.injEq] at e
        rw [e.2] at hdl
        omega
      | cons a c =>
        simp only [List.cons_append, List.cons.injEq] at e
        rw [h1] at e
        cases c with
        | nil =>
          simp only [List.nil_append, List.cons.injEq] at e
          obtain ⟨x', b', q1, q2, q3⟩ := ih [] (addF b (.mk s.g.tok s.g.op s.g.kids)) low (by show s1.g :: s1.stk = _; rw [h3, h4, e.2.1, e.2.2]; rfl) hl
          exact ⟨x', b', q1, q2, q3⟩
        | cons y c2 =>
          simp only [List.cons_append, List.cons.injEq] at e
          exact ih (addF y (.mk s.g.tok s.g.op s.g.kids) :: c2) b low (by show s1.g :: s1.stk = _; rw [h3, h4, e.2.1, e.2.2]; rfl) hl
    · exact ih (⟨t, t.text, [], s.at_⟩ :: x) b low (by show _ :: s.g :: s.stk = _; rw [e]; rfl) hl
    · cases x with
      | nil =>
        simp only [List.nil_append, List.cons.injEq] at e
        obtain ⟨x', b', q1, q2, q3⟩ := ih [] (addF b (.mk t ⟨#[]⟩ [])) low (by show addF s.g _ :: s.stk = _; rw [e.1, e.2]; rfl) hl
        exact ⟨x', b', q1, q2, q3⟩
      | cons a c =>
        simp only [List.cons_append, List.cons.injEq] at e
        exact ih (addF a (.mk t ⟨#[]⟩ []) :: c) b low (by show addF s.g _ :: s.stk = _; rw [e.1, e.2]; rfl) hl
theorem Path.len (hc0 : clo ws [] = none) {sf : Rst} {d n nL : Nat} {s sL : Rst} (h : Path ts ws sf d n s nL sL) : Inv ws s → (emL (sL.g :: sL.stk)).length + s.at_ = (emL (s.g :: s.stk)).length + sL.at_ ∧ Inv ws sL := by
  induction h with
  | refl n s => intro hi; exact ⟨rfl, hi⟩
  | @step m nL s s1 sL t ht hok hp hat hr hn hd hP ih =>
    intro hi
    obtain ⟨i1, i2, _⟩ := step_inv hc0 hi ht hok hp
    obtain ⟨h1, h2⟩ := ih i1
    have e : (emL ((adv s1).g :: (adv s1).stk)).length = (emL (s.g :: s.stk)).length + 1 := by
      show (emL (s1.g :: s1.stk)).length = _
      rw [i2, List.length_append]; rfl
    have hadv : (adv s1).at_ = s1.at_ + 1 := rfl
    rw [e] at h1
    exact ⟨by omega, h2⟩
/-- A group's place in a run. -/
def GroupAt (ts : List Tok) (ws : List ByteArray) (sf : Rst) (f : Fr) (i0 : Nat) : Prop :=
  ∃ n1 s1 nL sL t, Path ts ws sf 1 n1 s1 nL sL ∧ Inv ws s1 ∧ s1.at_ = i0 + 1 ∧ s1.stk.length = 1 ∧ s1.g.kids = [] ∧ s1.g.op = f.op ∧ sL.stk.length = 1 ∧ sL.g.kids = f.kids ∧ sL.at_ = i0 + 1 + (toksU f.kids).length ∧ ts[sL.at_]? = some t ∧ isCl t = true ∧ tokOk t = true
theorem top_next (hc0 : clo ws [] = none) {sf s : Rst} {n : Nat} (h : Run ts ws sf n s) (hn : ND ts ws n s) (hsf : sf.stk = []) (hs : s.stk = []) (hl : s.at_ < ts.length) :
    ∃ n' s' f, Run ts ws sf n' s' ∧ ND ts ws n' s' ∧ s'.stk = [] ∧ s'.g.kids = s.g.kids ++ [f] ∧ s'.at_ = s.at_ + (tokFU f).length ∧ (f.op.toList ≠ [] → GroupAt ts ws sf f s.at_) := by
  obtain ⟨t, s1, m, hm, ht, hok, hp, hat, hr, hn1⟩ := h.nd hc0 hn hl
  rcases pTake_cases ht hp with ⟨hcl, g2, rest, h1, h2, h3, h4, h5⟩ | ⟨hcl, h1, h2, rfl⟩ | ⟨hcl, h1, rfl⟩
  · rw [hs] at h1; cases h1
  · obtain ⟨nL, sL, tL, hP, hrL, hnL, hkL, htL, hclL⟩ := close_at hc0 (Nat.le_refl 1) hsf hr hn1 (by show 1 ≤ (s.g :: s.stk).length; simp)
    obtain ⟨x', b', q1, q2, q3⟩ := hP.low [] ⟨t, t.text, [], s.at_⟩ [s.g] (by show _ :: s.g :: s.stk = _; rw [hs]; rfl) rfl
    have hx' : x' = [] := by
      have := congrArg List.length q1
      rw [List.length_cons, hkL, List.length_append] at this
      simp only [List.length_cons, List.length_nil] at this
      exact List.eq_nil_of_length_eq_zero (by omega)
    subst hx'
    simp only [List.nil_append, List.cons.injEq] at q1
    obtain ⟨q4, q5⟩ := q1
    obtain ⟨l1, iL⟩ := hP.len hc0 hr.inv
    have hlen : (toksU sL.g.kids).length + (s.at_ + 1) = sL.at_ := by
      rw [q5] at l1
      have e1 : (emL (sL.g :: [s.g])).length = (toksU s.g.kids).length + (1 + (toksU sL.g.kids).length) := by simp [emL]; omega
      have e2 : (emL ((adv ⟨s.at_, ⟨t, t.text, [], s.at_⟩, s.g :: s.stk⟩).g :: (adv ⟨s.at_, ⟨t, t.text, [], s.at_⟩, s.g :: s.stk⟩).stk)).length = (toksU s.g.kids).length + 1 := by
        show (emL (⟨t, t.text, [], s.at_⟩ :: s.g :: s.stk)).length = _
        rw [hs]
        simp [emL, toksU]
      rw [e1, e2] at l1
      have : (adv ⟨s.at_, ⟨t, t.text, [], s.at_⟩, s.g :: s.stk⟩).at_ = s.at_ + 1 := rfl
      rw [this] at l1
      omega
    have hlL : sL.at_ < ts.length := (List.getElem?_eq_some_iff.1 htL).1
    obtain ⟨t', s2, m2, hm2, ht2, hok2, hp2, hat2, hr2, hn2⟩ := hrL.nd hc0 hnL hlL
    obtain rfl : tL = t' := by rw [htL] at ht2; cases ht2; rfl
    have hop : sL.g.op = t.text := by rw [q4, q3]
    have hne : sL.g.op.toList ≠ [] := by
      have := hr.inv.gi.grp (⟨t, t.text, [], s.at_⟩ : Grp) (by show _ ∈ (_ :: s.g :: s.stk).dropLast; rw [hs, List.dropLast_cons_cons]; exact List.mem_cons_self)
      rw [hop]
      intro e
      have h3 := this.2.2
      rw [show (⟨t, t.text, [], s.at_⟩ : Grp).op = t.text from rfl, e, hc0] at h3
      cases h3
    rcases pTake_cases ht2 hp2 with ⟨_, g2, rest, a1, a2, a3, a4, a5⟩ | ⟨hc, _⟩ | ⟨hc, _⟩
    · rw [q5] at a1
      simp only [List.cons.injEq] at a1
      refine ⟨m2, adv s2, .mk sL.g.tok sL.g.op sL.g.kids, hr2, hn2, by show s2.stk = []; rw [a4, ← a1.2], by show s2.g.kids = _; rw [a3, ← a1.1]; rfl, ?_, fun _ => ?_⟩
      · show s2.at_ + 1 = _
        have : tokFU (.mk sL.g.tok sL.g.op sL.g.kids) = sL.g.tok :: (toksU sL.g.kids ++ [closeTok sL.g.tok sL.g.op]) := if_neg hne
        rw [this]
        simp
        omega
      · exact ⟨m, _, nL, sL, tL, hP, hr.inv, rfl, by show (s.g :: s.stk).length = 1; rw [hs]; rfl, rfl, hop.symm, hkL, rfl, by show sL.at_ = s.at_ + 1 + (toksU sL.g.kids).length; omega, htL, hclL, hok2⟩
    · rw [hclL] at hc; cases hc
    · rw [hclL] at hc; cases hc
  · refine ⟨m, _, .mk t ⟨#[]⟩ [], hr, hn1, hs, rfl, ?_, fun h => absurd nil_toList h⟩
    have : tokFU (.mk t ⟨#[]⟩ []) = [t] := if_pos nil_toList
    rw [this]
    rfl
theorem top_all (hc0 : clo ws [] = none) {sf : Rst} (hsf : sf.stk = []) : ∀ (k : Nat) {n : Nat} {s : Rst}, ts.length ≤ s.at_ + k → Run ts ws sf n s → ND ts ws n s → s.stk = [] →
    ∃ R, sf.g.kids = s.g.kids ++ R ∧ ∀ i f, R[i]? = some f → f.op.toList ≠ [] → GroupAt ts ws sf f (s.at_ + (toksU (R.take i)).length)
  | 0, n, s, hk, h, _, _ => by
    obtain ⟨rfl, _⟩ := h.done (by omega)
    exact ⟨[], by simp, fun i f hf => by simp at hf⟩
  | k + 1, n, s, hk, h, hn, hs => by
    by_cases hl : s.at_ < ts.length
    · obtain ⟨n', s', f, hr, hn', hs', hkd, hat, hg⟩ := top_next hc0 h hn hsf hs hl
      have hpos : 1 ≤ (tokFU f).length := by
        unfold tokFU
        split <;> simp
      obtain ⟨R, h1, h2⟩ := top_all hc0 hsf k (by omega) hr hn' hs'
      refine ⟨f :: R, by rw [h1, hkd, List.append_assoc]; rfl, fun i f' hf' ho => ?_⟩
      cases i with
      | zero =>
        simp only [List.getElem?_cons_zero, Option.some.injEq] at hf'
        subst hf'
        simpa [toksU] using hg ho
      | succ i =>
        have := h2 i f' (by simpa using hf') ho
        rw [hat] at this
        rw [List.take_succ_cons, toksU_cons, List.length_append, ← Nat.add_assoc]
        exact this
    · obtain ⟨rfl, _⟩ := h.done (by omega)
      exact ⟨[], by simp, fun i f hf => by simp at hf⟩
theorem cl_stop {t : Tok} (h : isCl t = true) (hok : tokOk t = true) : isStop t = true := by
  have h1 : (qKind t.text.data.toList : Int) = t.kind := by
    unfold tokOk at hok
    simp only [Bool.and_eq_true, Bool.not_eq_true', bne_eq_false_iff_eq] at hok
    exact hok.1.1.1.2
  unfold isStop isSg isNm
  rcases (isCl_iff t).1 h with h | h | h | h
  · rw [h] at h1; rw [← h1, h]; decide +kernel
  · rw [h] at h1; rw [← h1, h]; decide +kernel
  · rw [h] at h1; rw [← h1, h]; decide +kernel
  · rw [h] at h1; rw [← h1, h]; decide +kernel
/-- What the tokens of a group's inside look like alone. -/
theorem la_sub {us : List Tok} {i0 : Nat} {t : Tok} (hs : ∀ k, k < us.length → ts[i0 + k]? = us[k]?) (ht : ts[i0 + us.length]? = some t) (hcl : isCl t = true) (hok : tokOk t = true) : LA ts us (i0 + us.length) 0 i0 := by
  have key : ∀ k a, k ≤ us.length → a ≠ tEnd → ((us[k]?).map tK = some (1, a) ↔ (ts[i0 + k]?).map tK = some (1, a)) := fun k a hk ha => by
    rcases Nat.lt_or_ge k us.length with h | h
    · rw [hs k h]
    · obtain rfl : k = us.length := by omega
      rw [List.getElem?_eq_none (Nat.le_refl _), ht]
      constructor
      · intro h; cases h
      · intro h
        simp only [Option.map_some, Option.some.injEq] at h
        rw [nm_cl hok h ha] at hcl
        cases hcl
  have hstop : ∀ k, k ≤ us.length → stopsAt us k = stopsAt ts (i0 + k) := fun k hk => by
    rcases Nat.lt_or_ge k us.length with h | h
    · exact stopsAt_K (by rw [hs k h])
    · obtain rfl : k = us.length := by omega
      unfold stopsAt
      rw [List.getElem?_eq_none (Nat.le_refl _), ht]
      exact (cl_stop hcl hok).symm
  refine ⟨fun i hi hq => ?_, fun i hi hq names hn => ?_, fun i hi hq => ?_⟩
  · rw [Nat.add_zero, ← hs (i - i0) (by omega), show i0 + (i - i0) = i by omega]
  · obtain ⟨k, rfl⟩ : ∃ k, i = i0 + k := ⟨i - i0, by omega⟩
    have hk : k < us.length := by omega
    rw [show i0 + k + 0 - i0 = k by omega]
    rcases hn with ⟨a, rfl, ha⟩ | ⟨a, b, rfl, ha, hb⟩
    · have e1 : nextAre us k [a] = nextAre ts (i0 + k) [a] := by
        rw [Bool.eq_iff_iff, nextAre_one, nextAre_one, key (k + 1) a (by omega) ha]
        rfl
      rw [e1]
      cases h1 : nextAre ts (i0 + k) [a] with
      | false => rfl
      | true =>
        have h2 := nextAre_one.1 (e1.trans h1)
        have hlt : k + 1 < us.length := by
          rcases Nat.lt_or_ge (k + 1) us.length with h | h
          · exact h
          · rw [List.getElem?_eq_none h] at h2; cases h2
        simp only [List.length_cons, List.length_nil, Nat.zero_add, Bool.true_and]
        rw [hstop (k + 1 + 1) (by omega)]
        rfl
    · have e1 : nextAre us k [a, b] = true → k + 2 < us.length ∧ nextAre ts (i0 + k) [a, b] = true := fun h => by
        obtain ⟨h1, h2⟩ := nextAre_hd.1 h
        rw [nextAre_one] at h2
        have hlt : k + 1 + 1 < us.length := by
          rcases Nat.lt_or_ge (k + 1 + 1) us.length with h | h
          · exact h
          · rw [List.getElem?_eq_none h] at h2; cases h2
        refine ⟨by omega, nextAre_hd.2 ⟨(key (k + 1) a (by omega) ha).1 h1, ?_⟩⟩
        rw [nextAre_one]
        exact (key (k + 1 + 1) b (by omega) hb).1 h2
      have e2 : nextAre ts (i0 + k) [a, b] = true → nextAre us k [a, b] = true := fun h => by
        obtain ⟨h1, h2⟩ := nextAre_hd.1 h
        have h3 := (key (k + 1) a (by omega) ha).2 h1
        have hlt : k + 1 < us.length := by
          rcases Nat.lt_or_ge (k + 1) us.length with h | h
          · exact h
          · rw [List.getElem?_eq_none h] at h3; cases h3
        refine nextAre_hd.2 ⟨h3, ?_⟩
        rw [nextAre_one] at h2 ⊢
        exact (key (k + 1 + 1) b (by omega) hb).2 h2
      cases h1 : nextAre us k [a, b] with
      | true =>
        obtain ⟨h2, h3⟩ := e1 h1
        rw [h3]
        simp only [List.length_cons, List.length_nil, Nat.zero_add, Bool.true_and, Nat.reduceAdd]
        rw [hstop (k + 1 + 2) (by omega)]
        rfl
      | false =>
        cases h2 : nextAre ts (i0 + k) [a, b] with
        | false => rfl
        | true => rw [e2 h2] at h1; cases h1
  · obtain ⟨k, rfl⟩ : ∃ k, i = i0 + k := ⟨i - i0, by omega⟩
    rw [show i0 + k + 0 - i0 = k by omega, Bool.eq_iff_iff, nextAre_one, nextAre_one, key (k + 1) tSlot (by omega) (by decide +kernel)]
    rfl
theorem alike_get {a b : List Fr} (h : alikeF true a b = true) {j : Nat} {g : Fr} (hg : b[j]? = some g) : ∃ f, a[j]? = some f ∧ f.op.toList = g.op.toList ∧ alikeF true f.kids g.kids = true ∧ (toksU (a.take j)).length = (toksU (b.take j)).length := by
  have hl := alike_length h
  have hj := (List.getElem?_eq_some_iff.1 hg).1
  obtain ⟨f, hf⟩ : ∃ f, a[j]? = some f := ⟨_, List.getElem?_eq_getElem (by omega)⟩
  have e := alikeF_drop true hf hg
  have h2 := h
  rw [← List.take_append_drop j a, ← List.take_append_drop j b, alikeF_app true _ _ _ _ (by simp [hl]), Bool.and_eq_true] at h2
  rw [e] at h2
  simp only [Bool.and_eq_true, beq_iff_eq] at h2
  exact ⟨f, hf, h2.2.2.1, h2.2.2.2.1, (alike_toks (fsz (a.take j) + 1) _ _ (Nat.lt_succ_self _) h2.1).1⟩
/-- **THE INSIDE OF A GROUP IS READABLE.** -/
theorem check_kids {a : List Fr} (ha : checkP a ws = 0) {j : Nat} {f : Fr} (hf : a[j]? = some f) (ho : f.op.toList ≠ []) (hm : (f.op.toList == tMacro.toList) = false) : checkP f.kids ws = 0 := by
  obtain ⟨hw, hc0, hda, hla, _, _, sf, a2, hr, hn, hsf, hka, _, _, haa⟩ := check_run ha
  obtain ⟨f2, hf2, e1, e2, e3⟩ := alike_get haa hf
  obtain ⟨R, hR, hG⟩ := top_all hc0 hsf (toksU a).length (by simp [st0]) hr hn rfl
  rw [show st0.g.kids = [] from rfl, List.nil_append, hka] at hR
  subst hR
  obtain ⟨n1, s1, nL, sL, t, hP, hi, hat, hst, hk0, hop, hsL, hkL, haL, htL, hcl, hok⟩ := hG j f2 hf2 (by rw [e1]; exact ho)
  rw [show st0.at_ = 0 from rfl, Nat.zero_add, e3] at hat haL
  obtain ⟨k1, k2⟩ := alike_toks (fsz f2.kids + 1) f2.kids f.kids (Nat.lt_succ_self _) e2
  rw [k1] at haL
  obtain ⟨hj, hje⟩ := List.getElem?_eq_some_iff.1 hf
  have hsplit : toksU a = toksU (a.take j) ++ (f.tok :: (toksU f.kids ++ [closeTok f.tok f.op])) ++ toksU (a.drop (j + 1)) := by
    have : a = a.take j ++ f :: a.drop (j + 1) := by
      rw [← hje, ← List.drop_eq_getElem_cons hj, List.take_append_drop]
    conv => lhs; rw [this]
    rw [toksU_app, toksU_cons]
    have : tokFU f = f.tok :: (toksU f.kids ++ [closeTok f.tok f.op]) := if_neg ho
    rw [this, List.append_assoc]
  have hsub : ∀ k, k < (toksU f.kids).length → (toksU a)[(toksU (a.take j)).length + 1 + k]? = (toksU f.kids)[k]? := fun k hk => by
    rw [hsplit, List.append_assoc, List.getElem?_append_right (by omega), show (toksU (a.take j)).length + 1 + k - (toksU (a.take j)).length = k + 1 by omega, List.cons_append, List.getElem?_cons_succ, List.append_assoc, List.getElem?_append_left hk]
  have hLA := la_sub hsub (by rw [← haL]; exact htL) hcl hok
  have hdk : dep f.kids + 1 ≤ dep a := by
    have : a = a.take j ++ f :: a.drop (j + 1) := by
      rw [← hje, ← List.drop_eq_getElem_cons hj, List.take_append_drop]
    rw [this, dep_app, dep_cons, if_neg ho]
    omega
  have hlk : (toksU f.kids).length ≤ (toksU a).length := by
    rw [hsplit]; simp; omega
  obtain ⟨lowg, hlow⟩ : ∃ x, s1.stk = [x] := by
    cases h : s1.stk with
    | nil => rw [h] at hst; cases hst
    | cons x r =>
      rw [h] at hst
      simp at hst
      exact ⟨x, by rw [hst]⟩
  have hm0 : (st0.g.op.toList == tMacro.toList) = false := by rw [show st0.g.op = ⟨#[]⟩ from rfl, nil_toList]; decide +kernel
  have hop2 : (s1.g.op.toList == tMacro.toList) = false := by rw [hop, e1]; exact hm
  obtain ⟨sL', r1, _, _, r4, r5, r6⟩ := sim_path (d := 1) (d' := 0) (K0 := []) (K0' := []) hc0 hLA hP st0 hi (st0_inv ws) (by rw [haL]) (by omega) (by rw [hat]; simp [st0]) ⟨[], [], s1.g, st0.g, s1.stk, [], [], rfl, rfl, rfl, hst, rfl, by rw [hk0]; rfl, rfl, hop2, hm0⟩ (Nat.zero_le _)
  obtain ⟨x, x', bb, bb', low, low', kk, q1, q2, q3, q4, q4', q5, q6, _, _⟩ := r1
  have hx : x = [] := by
    have := congrArg List.length q1
    rw [List.length_cons, hsL] at this
    simp at this
    exact List.eq_nil_of_length_eq_zero (by omega)
  have hx' : x' = [] := by
    have := congrArg List.length q3
    rw [hx] at this
    simp at this
    exact List.eq_nil_of_length_eq_zero this.symm
  subst hx hx'
  simp only [List.nil_append, List.cons.injEq] at q1 q2 q5 q6
  have hlow' : low' = [] := List.eq_nil_of_length_eq_zero q4'
  have hread : pRead (toksU f.kids) ws = .ok f2.kids := by
    unfold pRead
    rw [hw]
    simp only [Bool.true_eq_false, if_false]
    rw [if_neg (by omega)]
    unfold pRead0
    have h2 := r6 0
    rw [haL, hat, Nat.add_zero, Nat.add_sub_cancel_left] at h2
    rw [h2]
    simp only [pGo]
    rw [if_pos (by rw [q2.2, hlow']; rfl), q2.1, q6, ← q5, ← q1.1, hkL]
  exact check_of hw (by omega) (by omega) hread e2
end
/- (P15) -/
attribute [local go_sem] Oper.semAt_some

theorem FrAt.cells {W : World} {S : Nat → Prop} : ∀ {l : List Fr} {g o : Nat}, FrAt W S g o l → ∃ xs, KidsC W S l xs ∧ ∀ j u, xs[j]? = some u → W.cell? ⟨g, o + j, none⟩ = some u
  | [], g, o, _ => ⟨[], rfl, fun j u h => by simp at h⟩
  | .mk t op ks :: l, g, o, h => by
    cases h with
    | @cons _ _ _ _ _ _ a c g' o' hs hg h0 h1 h2 h3 h4 h5 h6 hm ha hk hl =>
      obtain ⟨r, hr1, hr2⟩ := hl.cells
      refine ⟨frC t op (.slice a ks.length c) ++ r, ⟨_, r, rfl, ⟨a, c, g', o', rfl, hm, ha, hk⟩, hr1⟩, fun j u hj => ?_⟩
      rcases Nat.lt_or_ge j 7 with h7 | h7
      · rw [List.getElem?_append_left (by simpa [frC] using h7)] at hj
        match j, h7, hj with
        | 0, _, hj => cases hj; exact h0
        | 1, _, hj => cases hj; exact h1
        | 2, _, hj => cases hj; exact h2
        | 3, _, hj => cases hj; exact h3
        | 4, _, hj => cases hj; exact h4
        | 5, _, hj => cases hj; exact h5
        | 6, _, hj => cases hj; exact h6
      · rw [List.getElem?_append_right (by simpa [frC] using h7)] at hj
        have e : (frC t op (.slice a ks.length c)).length = 7 := rfl
        rw [e] at hj
        have := hr2 (j - 7) u hj
        rw [show o + j = o + 7 + (j - 7) by omega]
        exact this
theorem KidsC.app {W : World} {S : Nat → Prop} : ∀ {a b : List Fr} {xs ys : List Value}, KidsC W S a xs → KidsC W S b ys → KidsC W S (a ++ b) (xs ++ ys)
  | [], b, xs, ys, h, hb => by cases (h : xs = []); exact hb
  | f :: a, b, xs, ys, ⟨kv, r, hx, hf, hr⟩, hb => ⟨kv, r ++ ys, by rw [hx, List.append_assoc], hf, hr.app hb⟩
theorem KidsC.one {W : World} {S : Nat → Prop} : ∀ {a : List Fr} {xs : List Value}, KidsC W S a xs → ∀ u ∈ xs, u.oneCell' = true
  | [], xs, h, u, hu => by cases (h : xs = []); cases hu
  | f :: a, xs, ⟨kv, r, hx, hf, hr⟩, u, hu => by
    subst hx
    rcases List.mem_append.1 hu with h | h
    · obtain ⟨_, _, _, _, rfl, _⟩ := hf
      simp [frC] at h
      rcases h with rfl | rfl | rfl | rfl | rfl | rfl | rfl <;> rfl
    · exact hr.one u h
theorem addr_add (g o n : Nat) : (⟨g, o, none⟩ : Addr).add n = ⟨g, o + n, none⟩ := by unfold Addr.add; split <;> simp_all
def endsP (l : List Fr) : Bool := match l.getLast? with
  | some f => [tClass, tMethod, tMacro].any (fun x => x.toList == f.op.toList)
  | none => false
theorem ends_clo {ws : List ByteArray} {l : List Fr} (h : endsP l = false) : ∀ f, l.getLast? = some f → clo ws f.op.toList ≠ some true := fun f hf hc => by
  unfold endsP at h
  rw [hf] at h
  simp only [List.any_cons, List.any_nil, Bool.or_false, Bool.or_eq_false_iff] at h
  unfold clo at hc
  split at hc
  · cases hc
  · split at hc
    · cases hc
    · split at hc
      · rename_i h3
        simp only [List.any_cons, List.any_nil, Bool.or_false, Bool.or_eq_true] at h3
        rw [h.1, h.2.1, h.2.2] at h3
        simp at h3
      · cases hc
theorem length_toks : ∀ (l : List Fr), l.length ≤ (toksU l).length
  | [] => Nat.zero_le _
  | f :: r => by
    rw [toksU_cons, List.length_append, List.length_cons]
    have := length_toks r
    have h1 : 1 ≤ (tokFU f).length := by unfold tokFU; split <;> simp
    omega
theorem txtOk_get {l : List Fr} (h : TxtOk l) {k : Nat} {f : Fr} (hf : l[k]? = some f) : TxtOk f.kids := by
  induction l generalizing k with
  | nil => cases hf
  | cons g r ih =>
    obtain ⟨_, _, h3, h4⟩ := txtOk_cons.1 h
    cases k with
    | zero => simp at hf; subst hf; exact h3
    | succ k => exact ih h4 (by simpa using hf)

def IdxPost (ws : List ByteArray) (x : ByteArray) (w : World) (e : Ending) (W : World) : Prop :=
  ∃ r : Int, e = .returned (.int .i64 r) ∧ -1 ≤ r ∧ r ≤ 9223372036854775807 ∧ (0 ≤ r ↔ (ws.any fun y => y.toList == x.toList) = true) ∧ W = w

set_option maxRecDepth 100000 in
/-- **R01.Index**, whether there is one -/
theorem refIndex_any (v : Value) (ws : List ByteArray) (x : ByteArray) (w : World) (hr : StrRead w v ws) :
    Calls Tryz.prog 67 #[v, .string x] w (IdxPost ws x w) := by
  obtain ⟨a, c, rfl, ⟨h1, h2⟩, hc⟩ := hr
  have HC := Lib.hid hc
  unfold maxLen at h1
  clear hc
  go_enter Tryz.func67, Tryz.ntmps67
  go_wp2_with fail
  go_loop [5] (fun y => ∃ k : Nat, k ≤ ws.length ∧ y = .int .i64 k ∧ Hid (((ws.take k).any fun y => y.toList == x.toList) = false)) (fun y => ws.length - (intOf y).toNat)
  case atStart => exact ⟨0, by omega, rfl, Lib.hid (by simp)⟩
  case round =>
    obtain ⟨k, hk, rfl, HK⟩ := hrel
    by_cases hlt : k < ws.length
    · obtain ⟨y, hy⟩ : ∃ y, ws[k]? = some y := ⟨_, List.getElem?_eq_getElem hlt⟩
      obtain ⟨g, o, rfl, hg, c0⟩ := HC.out k y hy
      have HY := Lib.hid hy
      have k1 : (k : Int) < (ws.length : Int) := by omega
      clear hy
      cases e1 : (y.toList == x.toList)
      · go_wp2_with fail
        go_round
        case rel => exact ⟨k + 1, by omega, by go_num, Lib.hid (by rw [List.take_add_one, HY.out, List.any_append, HK.out]; simpa using e1)⟩
        case measure => simp [intOf]; omega
      · go_wp2_with fail
        go_ret
        refine ⟨k, rfl, by omega, by omega, ⟨fun _ => ?_, fun _ => by omega⟩, rfl⟩
        rw [List.any_eq_true]
        exact ⟨y, List.mem_of_getElem? HY.out, e1⟩
    · obtain rfl : k = ws.length := by omega
      have h := HK.out
      rw [List.take_length] at h
      have HH := Lib.hid h
      clear h
      go_wp2_with fail
      go_ret
      exact ⟨-1, rfl, by omega, by omega, ⟨fun h => by omega, fun h => by rw [HH.out] at h; cases h⟩, rfl⟩

set_option maxRecDepth 100000 in
set_option maxHeartbeats 4000000 in
/-- **ends** -/
theorem ends_any (S : Nat → Prop) (l : List Fr) (v : Value) (w : World) (hr : FrRead w S v l) :
    Calls Tryz.prog 44 #[v] w fun e W => e = .returned (.bool (endsP l)) ∧ Below w.heap.size w W := by
  obtain ⟨a, c, g, o, rfl, ⟨h1, h2⟩, ha, hat⟩ := hr
  unfold maxLen at h1
  have hba := (Below.refl w.heap.size w).alloc (Nat.le_refl _) (.cells ([tClass, tMethod, tMacro].map Value.string).toArray 9)
  have HBA := Lib.hid hba
  rcases List.eq_nil_or_concat l with hn | ⟨l0, f, hn⟩
  · subst hn
    go_enter Tryz.func44, Tryz.ntmps44
    go_wp2_with fail
    go_ret
    exact ⟨rfl, Below.refl _ _⟩
  · rw [List.concat_eq_append] at hn
    obtain ⟨n, hln⟩ : ∃ n, l0.length = n := ⟨_, rfl⟩
    have hlen : l.length = n + 1 := by rw [hn, List.length_append, hln]; rfl
    have hget : l[n]? = some f := by rw [hn, ← hln]; simp
    have hends : endsP l = [tClass, tMethod, tMacro].any (fun x => x.toList == f.op.toList) := by unfold endsP; rw [hn, List.getLast?_concat]
    obtain ⟨kv, hs, hg, c0, c1, c2, c3, c4, c5, c6, hkr⟩ := hat.get hget
    obtain rfl : a = some ⟨g, o, none⟩ := ha (by rw [hn]; simp)
    have m5 := (hba.cell (p := ⟨g, o + n * 7 + 5, none⟩) hg).trans c5
    rw [hlen] at h1 h2 ⊢
    have HS := Lib.hid (strs_new w [tClass, tMethod, tMacro] (by simp))
    rw [hends]
    obtain ⟨res, hres⟩ : ∃ res, ([tClass, tMethod, tMacro].any fun x => x.toList == f.op.toList) = res := ⟨_, rfl⟩
    rw [hres]
    have HE := Lib.hid hres
    have h0 : decide (((n : Int) + 1) > 0) = true := decide_eq_true (by omega)
    have hw1 : IntKind.i64.wrap ((n : Int) + 1 - 1) = (n : Int) := by rw [IntWalk.i64_in _ (by omega)]; omega
    have k1 : (n : Int) < (n : Int) + 1 := by omega
    clear hn hln hlen hget hends hres c0 c1 c2 c3 c4 c6 hkr hs hat ha hba m5
    go_enter Tryz.func44, Tryz.ntmps44
    go_wp2_with fail
    go_at_call 67
    refine (refIndex_any _ _ f.op _ HS.out).mono ?_
    rintro e W1 ⟨r, rfl, hr1, hr2, hr3, rfl⟩
    have HR3 := Lib.hid hr3
    clear hr3
    cases res
    · have hneg : ¬ 0 ≤ r := fun h => by have := HR3.out.1 h; rw [HE.out] at this; cases this
      have d1 : decide (r ≥ 0) = false := decide_eq_false hneg
      go_wp2_with fail
      go_ret
      exact ⟨rfl, HBA.out⟩
    · have hpos : 0 ≤ r := HR3.out.2 HE.out
      have d1 : decide (r ≥ 0) = true := decide_eq_true hpos
      go_wp2_with fail
      go_ret
      exact ⟨rfl, HBA.out⟩
/- (P16) -/
/-- An operation whose guard is met does what it would do without one. -/
theorem wpList_met {P : Program} {ops : Array Oper} {Q : Exit → Act → World → Prop} {a : Act} {w : World} {rest : List Oper} {o : Oper} (hg : Region.wanted o (yielded ops a.tmps) = true)
    (h : wpList P ops Q ({ o with guard := none } :: rest) a w) : wpList P ops Q (o :: rest) a w := by
  cases o
  unfold wpList at h ⊢
  rw [if_pos hg]
  rw [if_pos (by simp [Region.wanted])] at h
  exact h
end Go.Proofs.YtopbmndjnjnmcaaGreatDoor
