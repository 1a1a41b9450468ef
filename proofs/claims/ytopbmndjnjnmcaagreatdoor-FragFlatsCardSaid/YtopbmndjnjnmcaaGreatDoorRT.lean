/- Package fragment: the rest of a reading with its verdict, step by step, as the reference's reader (skerryref02 Read) looks at it: for FragReads. -/
import Derived.Test.YtopbmndjnjnmcaaGreatDoorLF
namespace Go.Proofs.YtopbmndjnjnmcaaGreatDoor
open Go.RowKit Lx
/- (P20) -/
section
variable {ts : List Tok} {ws : List ByteArray}
/-- The rest of a reading, with its verdict. -/
def V (ts : List Tok) (ws : List ByteArray) (s : Rst) : Rd := match pGo ts ws (ts.length - s.at_) s with
  | .bad e i => .bad e i
  | .ok s => if s.stk.length = 0 then .ok s.g.kids else .bad 21 s.g.from_
theorem V_read : pRead0 ts ws = V ts ws st0 := rfl
theorem pTake_le {s s' : Rst} {t : Tok} (ht : ts[s.at_]? = some t) (h : pTake ts ws s = .ok s') : s.at_ ≤ s'.at_ := by
  rcases pTake_cases ht h with ⟨_, _, _, _, _, _, _, h⟩ | ⟨_, _, _, rfl⟩ | ⟨_, _, rfl⟩
  · rcases h with ⟨_, h⟩ | ⟨_, ⟨_, h⟩ | ⟨_, _, h⟩⟩ <;> omega
  · exact Nat.le_refl _
  · exact Nat.le_refl _
theorem pGo_fuel : ∀ (n m : Nat) (s : Rst), ts.length ≤ s.at_ + n → n ≤ m → pGo ts ws m s = pGo ts ws n s
  | 0, 0, _, _, _ => rfl
  | 0, m + 1, s, h, _ => by simp only [pGo]; rw [if_neg (by omega)]
  | n + 1, m + 1, s, h, hm => by
    simp only [pGo]
    by_cases hl : s.at_ < ts.length
    · rw [if_pos hl, if_pos hl]
      have ht : ts[s.at_]? = some ts[s.at_] := List.getElem?_eq_getElem hl
      cases hp : pTake ts ws s with
      | bad e i => rfl
      | ok s' =>
        have := pTake_le ht hp
        simp only
        rw [pGo_fuel n m { s' with at_ := s'.at_ + 1 } (by simp only; omega) (by omega)]
    · rw [if_neg hl, if_neg hl]
theorem V_end {s : Rst} (h : ts.length ≤ s.at_) : V ts ws s = if s.stk.length = 0 then .ok s.g.kids else .bad 21 s.g.from_ := by
  unfold V
  rw [Nat.sub_eq_zero_of_le h]
  rfl
theorem V_bad {s : Rst} {t : Tok} (ht : ts[s.at_]? = some t) (hok : tokOk t = false) : V ts ws s = .bad 14 s.at_ := by
  have hl : s.at_ < ts.length := (List.getElem?_eq_some_iff.1 ht).1
  unfold V
  obtain ⟨n, hn⟩ : ∃ n, ts.length - s.at_ = n + 1 := ⟨ts.length - s.at_ - 1, by omega⟩
  rw [hn]
  simp only [pGo, pCheck, ht, hok, if_pos hl, Bool.false_eq_true, if_false]
theorem V_step {s : Rst} {t : Tok} (ht : ts[s.at_]? = some t) (hok : tokOk t = true) : V ts ws s = match pTake ts ws s with
    | .bad e i => .bad e i
    | .ok s' => V ts ws (adv s') := by
  have hl : s.at_ < ts.length := (List.getElem?_eq_some_iff.1 ht).1
  obtain ⟨n, hn⟩ : ∃ n, ts.length - s.at_ = n + 1 := ⟨ts.length - s.at_ - 1, by omega⟩
  have e : pGo ts ws (ts.length - s.at_) s = match pTake ts ws s with
      | .bad e i => .bad e i
      | .ok s' => pGo ts ws n (adv s') := by
    rw [hn]
    simp only [pGo, pCheck, ht, hok, if_pos hl, if_true]
    rfl
  unfold V
  rw [e]
  cases hp : pTake ts ws s with
  | bad e i => rfl
  | ok s' =>
    have h1 := pTake_le ht hp
    have h2 : (adv s').at_ = s'.at_ + 1 := rfl
    simp only
    rw [pGo_fuel (ts.length - (adv s').at_) n (adv s') (by omega) (by omega)]
/-! What the reference looks at. -/
theorem tok_kind {t : Tok} (h : tokOk t = true) : (qKind t.text.data.toList : Int) = t.kind := by
  unfold tokOk at h
  simp only [Bool.and_eq_true, Bool.not_eq_true', bne_eq_false_iff_eq] at h
  exact h.1.1.1.2
def rCl (t : Tok) : Bool := isNm t tEnd || (isSg t 41 || (isSg t 93 || isSg t 125))
theorem cl_eq {t : Tok} (hok : tokOk t = true) : isCl t = rCl t := by
  have hk := tok_kind hok
  cases h : isCl t with
  | true =>
    unfold rCl isNm isSg
    rcases (isCl_iff t).1 h with h | h | h | h <;> (rw [h] at hk; rw [← hk, h]; decide +kernel)
  | false =>
    cases h2 : rCl t with
    | false => rfl
    | true =>
      exfalso
      have : isCl t = true := by
        refine (isCl_iff t).2 ?_
        unfold rCl isNm isSg at h2
        simp only [Bool.or_eq_true, Bool.and_eq_true, beq_iff_eq] at h2
        rcases h2 with h2 | h2 | h2 | h2
        · exact .inr (.inr (.inr (ba_ext h2.2)))
        · exact .inl (ba_ext (by rw [h2.2]; decide +kernel))
        · exact .inr (.inl (ba_ext (by rw [h2.2]; decide +kernel)))
        · exact .inr (.inr (.inl (ba_ext (by rw [h2.2]; decide +kernel))))
      rw [h] at this; cases this
def rBr (op : ByteArray) : ByteArray := if (op.toList == [40]) = true then bs1 41 else if (op.toList == [91]) = true then bs1 93 else if (op.toList == [123]) = true then bs1 125 else ⟨#[]⟩
def rFits (t : Tok) (op : ByteArray) : Bool := ((rBr op).toList == [] && isNm t tEnd) || ((rBr op).toList != [] && ((t.kind == 5) && (t.text.toList == (rBr op).toList)))
theorem fits_eq {t tg : Tok} (op : ByteArray) (hok : tokOk t = true) : ((closeTok tg op).text.toList != t.text.toList) = !rFits t op := by
  have hk := tok_kind hok
  have key : ∀ x : ByteArray, (∀ y : Tok, y.text = x → tokOk y = true → y.kind = (qKind x.data.toList : Int)) := fun x y h1 h2 => by rw [← h1, tok_kind h2]
  have k5 : ∀ x : ByteArray, (qKind x.data.toList : Int) = 5 → (x.toList != t.text.toList) = !((t.kind == 5) && (t.text.toList == x.toList)) := fun x hx => by
    cases h : (t.text.toList == x.toList) with
    | true =>
      have e : t.text = x := ba_ext (eq_of_beq h)
      rw [key x t e hok, hx, ← eq_of_beq h]; simp
    | false =>
      rw [Bool.and_false, Bool.not_false, bne_iff_ne]
      intro e; rw [e] at h; simp at h
  have k1 : (tEnd.toList != t.text.toList) = !isNm t tEnd := by
    unfold isNm
    cases h : (t.text.toList == tEnd.toList) with
    | true =>
      have e : t.text = tEnd := ba_ext (eq_of_beq h)
      rw [key tEnd t e hok, ← eq_of_beq h]
      rw [show (qKind tEnd.data.toList : Int) = 1 by decide +kernel]; simp
    | false =>
      rw [Bool.and_false, Bool.not_false, bne_iff_ne]
      intro e; rw [e] at h; simp at h
  unfold closeTok rFits rBr
  split
  · rw [show ((bs1 41).toList == []) = false by decide +kernel, show ((bs1 41).toList != []) = true by decide +kernel]
    simp only [Bool.false_and, Bool.false_or, Bool.true_and]
    exact k5 _ (by decide +kernel)
  · split
    · rw [show ((bs1 93).toList == []) = false by decide +kernel, show ((bs1 93).toList != []) = true by decide +kernel]
      simp only [Bool.false_and, Bool.false_or, Bool.true_and]
      exact k5 _ (by decide +kernel)
    · split
      · rw [show ((bs1 125).toList == []) = false by decide +kernel, show ((bs1 125).toList != []) = true by decide +kernel]
        simp only [Bool.false_and, Bool.false_or, Bool.true_and]
        exact k5 _ (by decide +kernel)
      · rw [show ((⟨#[]⟩ : ByteArray).toList == []) = true by decide +kernel, show ((⟨#[]⟩ : ByteArray).toList != []) = false by decide +kernel]
        simp only [Bool.true_and, Bool.false_and, Bool.or_false]
        exact k1
end
/- (P21) -/
section
variable {ts : List Tok} {ws : List ByteArray}
theorem word_kind (hw : okWords ws = true) {x : ByteArray} (hx : x ∈ ws) : qKind x.data.toList = 1 := by
  obtain ⟨i, hi, rfl⟩ := List.mem_iff_getElem.1 hx
  unfold okWords at hw
  simp only [Bool.and_eq_true, List.all_eq_true, List.mem_range] at hw
  have h1 := hw.2 i hi
  unfold okWordsAt at h1
  simp only [Bool.and_eq_true] at h1
  have h2 := h1.1.1.1
  rw [List.getD_eq_getElem?_getD, List.getElem?_eq_getElem hi, Option.getD_some] at h2
  unfold wordOk at h2
  simp only [Bool.and_eq_true, beq_iff_eq] at h2
  exact h2.1
def rOpens (ts : List Tok) (ws : List ByteArray) (i : Nat) (t : Tok) (plain : Bool) : Bool :=
  if (t.kind == 5) = true then (rBr t.text).toList != []
  else if ((t.kind != 1) || (plain || !(givenW ++ ws).any (fun x => x.toList == t.text.toList))) = true then false
  else (t.text.toList != tClass.toList) || !nextAre ts i [tSlot]
def brs : List ByteArray := [bs1 40, bs1 91, bs1 123]
theorem clo_some (ws : List ByteArray) (s : List UInt8) : (clo ws s).isSome = (brs.any (fun x => x.toList == s) || (givenW ++ ws).any (fun x => x.toList == s)) := by
  unfold clo brs givenW
  simp only [List.any_cons, List.any_nil, List.cons_append, List.nil_append, Bool.or_false]
  cases h1 : ws.any (fun x => x.toList == s)
  · cases h2 : (bs1 40).toList == s <;> cases h3 : (bs1 91).toList == s <;> cases h4 : (bs1 123).toList == s <;> cases h5 : tBegin.toList == s <;> cases h6 : tIf.toList == s <;> cases h7 : tBlock.toList == s <;>
      cases h8 : tMethod.toList == s <;> cases h9 : tClass.toList == s <;> cases h10 : tMacro.toList == s <;> rfl
  · simp
theorem any_kind {t : Tok} (hok : tokOk t = true) {l : List ByteArray} {k : Nat} (hl : ∀ x ∈ l, qKind x.data.toList = k) (hk : t.kind ≠ (k : Int)) : l.any (fun x => x.toList == t.text.toList) = false := by
  rw [List.any_eq_false]
  intro x hx h
  have e : x = t.text := ba_ext (eq_of_beq h)
  have := tok_kind hok
  rw [← e, hl x hx] at this
  exact hk this.symm
theorem given_kind (hw : okWords ws = true) : ∀ x ∈ givenW ++ ws, qKind x.data.toList = 1 := by
  intro x hx
  rcases List.mem_append.1 hx with h | h
  · unfold givenW at h
    simp only [List.mem_cons, List.not_mem_nil, or_false] at h
    rcases h with rfl | rfl | rfl | rfl | rfl | rfl <;> decide +kernel
  · exact word_kind hw h
theorem brs_kind : ∀ x ∈ brs, qKind x.data.toList = 5 := by
  intro x h
  unfold brs at h
  simp only [List.mem_cons, List.not_mem_nil, or_false] at h
  rcases h with rfl | rfl | rfl <;> decide +kernel
theorem brs_br (op : ByteArray) : brs.any (fun x => x.toList == op.toList) = ((rBr op).toList != []) := by
  have c : ∀ b : UInt8, ((bs1 b).toList == op.toList) = (op.toList == [b]) := fun b => by
    have e : (bs1 b).toList = [b] := by rw [toList_data]; rfl
    rw [e, Bool.eq_iff_iff, beq_iff_eq, beq_iff_eq]
    exact ⟨Eq.symm, Eq.symm⟩
  unfold brs rBr
  simp only [List.any_cons, List.any_nil, c, Bool.or_false]
  cases h1 : op.toList == [40]
  · cases h2 : op.toList == [91]
    · cases h3 : op.toList == [123]
      · simp only [Bool.false_eq_true, if_false]; decide +kernel
      · simp only [Bool.false_eq_true, if_false, if_true]; decide +kernel
    · simp only [Bool.false_eq_true, if_false, if_true]; cases op.toList == [123] <;> decide +kernel
  · simp only [if_true]; cases op.toList == [91] <;> cases op.toList == [123] <;> decide +kernel
theorem opens_ref (hw : okWords ws = true) {s : Rst} {t : Tok} (hok : tokOk t = true) :
    pOpens ts ws s t = rOpens ts ws s.at_ t ((s.g.op.toList == tMacro.toList) && (s.g.from_ == (s.at_ : Int) - 1)) := by
  unfold pOpens rOpens
  rw [clo_some]
  by_cases h5 : t.kind = 5
  · have e1 := any_kind hok (given_kind hw) (k := 1) (by rw [h5]; decide)
    have e2 : (t.text.toList != tClass.toList) = true := by
      rw [bne_iff_ne]
      intro e
      have := tok_kind hok
      rw [ba_ext e, h5] at this
      exact absurd this (by decide +kernel)
    have e3 : (t.kind == 1) = false := by rw [h5]; rfl
    have e4 : (t.kind == 5) = true := by rw [h5]; rfl
    rw [e1, e2, e3, e4, brs_br]
    simp
  · have e4 : (t.kind == 5) = false := by simpa using h5
    rw [any_kind hok brs_kind h5, e4]
    simp only [Bool.false_or, Bool.false_eq_true, if_false]
    by_cases h1 : t.kind = 1
    · have e3 : (t.kind == 1) = true := by rw [h1]; rfl
      have e5 : (t.kind != 1) = false := by rw [h1]; rfl
      rw [e3, e5]
      cases (givenW ++ ws).any (fun x => x.toList == t.text.toList) <;> cases (s.g.op.toList == tMacro.toList) <;> cases (s.g.from_ == (s.at_ : Int) - 1) <;> simp
    · rw [any_kind hok (given_kind hw) h1, show (t.kind != 1) = true by simpa using h1]
      simp
/-! The steps, as the reference takes them. -/
theorem V_stray {s : Rst} {t : Tok} (hw : okWords ws = true) (hi : Inv ws s) (ht : ts[s.at_]? = some t) (hok : tokOk t = true) (hc : rCl t = true) (h : s.stk = [] ∨ rFits t s.g.op = false) : V ts ws s = .bad 20 s.at_ := by
  rw [V_step ht hok]
  have e : pTake ts ws s = .bad 20 s.at_ := by
    have hb : ∀ e i, pEnd ts s = .bad e i → pNamed ts s = .bad e i := fun e i h => by unfold pNamed; rw [h]
    unfold pTake
    rw [ht]
    simp only [cl_eq hok, hc, if_true]
    cases hs : s.stk with
    | nil =>
      have := hi.gi
      rw [hs] at this
      have e : s.g.op.toList = [] := by rw [this.base]; decide +kernel
      rw [e, clo_nil hw]
    | cons g2 rest =>
      have hf : rFits t s.g.op = false := by
        rcases h with h | h
        · rw [hs] at h; cases h
        · exact h
      have hp : pEnd ts s = .bad 20 s.at_ := by
        unfold pEnd
        rw [hs, ht]
        simp only [fits_eq s.g.op hok, hf, Bool.not_false, if_true]
      cases clo ws s.g.op.toList with
      | none => rfl
      | some b => cases b with
        | false => exact hp
        | true => exact hb _ _ hp
  rw [e]
theorem V_deep {s : Rst} {t : Tok} (ht : ts[s.at_]? = some t) (hok : tokOk t = true) (hc : rCl t = false) (ho : pOpens ts ws s t = true) (hd : 100 ≤ s.stk.length) : V ts ws s = .bad 6 s.at_ := by
  rw [V_step ht hok]
  have e : pTake ts ws s = .bad 6 s.at_ := by
    unfold pTake
    rw [ht]
    simp only [cl_eq hok, hc, ho, Bool.false_eq_true, if_false, if_true]
    rw [if_pos (by omega)]
  rw [e]
theorem V_open {s : Rst} {t : Tok} (ht : ts[s.at_]? = some t) (hok : tokOk t = true) (hc : rCl t = false) (ho : pOpens ts ws s t = true) (hd : s.stk.length < 100) : V ts ws s = V ts ws ⟨s.at_ + 1, ⟨t, t.text, [], s.at_⟩, s.g :: s.stk⟩ := by
  rw [V_step ht hok]
  have e : pTake ts ws s = .ok ⟨s.at_, ⟨t, t.text, [], s.at_⟩, s.g :: s.stk⟩ := by
    unfold pTake
    rw [ht]
    simp only [cl_eq hok, hc, ho, Bool.false_eq_true, if_false, if_true]
    rw [if_neg (by omega)]
  rw [e]; rfl
theorem V_else {s : Rst} {t : Tok} (ht : ts[s.at_]? = some t) (hok : tokOk t = true) (hc : rCl t = false) (ho : pOpens ts ws s t = false) : V ts ws s = V ts ws ⟨s.at_ + 1, addF s.g (.mk t ⟨#[]⟩ []), s.stk⟩ := by
  rw [V_step ht hok]
  have e : pTake ts ws s = .ok ⟨s.at_, addF s.g (.mk t ⟨#[]⟩ []), s.stk⟩ := by
    unfold pTake
    rw [ht]
    simp only [cl_eq hok, hc, ho, Bool.false_eq_true, if_false]
  rw [e]; rfl
end
/- (P22) -/
section
variable {ts : List Tok} {ws : List ByteArray}
def nmd3 : List ByteArray := [tMethod, tClass, tMacro]
theorem not_given (hw : okWords ws = true) {x : ByteArray} (hx : x ∈ ws) : x ∉ givenW := by
  obtain ⟨i, hi, rfl⟩ := List.mem_iff_getElem.1 hx
  unfold okWords at hw
  simp only [Bool.and_eq_true, List.all_eq_true, List.mem_range] at hw
  have h1 := hw.2 i hi
  unfold okWordsAt at h1
  simp only [Bool.and_eq_true, Bool.not_eq_true'] at h1
  have h2 := h1.1.2
  rw [List.getD_eq_getElem?_getD, List.getElem?_eq_getElem hi, Option.getD_some] at h2
  intro hm
  rw [(Lib.containsS_iff _ _).2 hm] at h2
  cases h2
theorem clo_three (hw : okWords ws = true) (op : ByteArray) (hs : (clo ws op.toList).isSome = true) : clo ws op.toList = some (nmd3.any (fun x => x.toList == op.toList)) := by
  unfold clo at hs ⊢
  have nmd3_def : nmd3 = [tMethod, tClass, tMacro] := rfl
  rw [← nmd3_def] at hs ⊢
  cases h1 : ws.any (fun x => x.toList == op.toList) with
  | true =>
    obtain ⟨x, hx, he⟩ := List.any_eq_true.1 h1
    have e : x = op := ba_ext (eq_of_beq he)
    subst e
    have hn := not_given hw hx
    have : nmd3.any (fun y => y.toList == x.toList) = false := by
      rw [List.any_eq_false]
      intro y hy h
      rw [ba_ext (eq_of_beq h)] at hy
      unfold nmd3 at hy
      refine hn ?_
      unfold givenW
      simp only [List.mem_cons, List.not_mem_nil, or_false] at hy ⊢
      rcases hy with h | h | h <;> simp [h]
    rw [this]; rfl
  | false =>
    rw [h1] at hs
    simp only [Bool.false_eq_true, if_false] at hs ⊢
    cases h2 : [bs1 40, bs1 91, bs1 123, tBegin, tIf, tBlock].any (fun x => x.toList == op.toList) with
    | true =>
      obtain ⟨x, hx, he⟩ := List.any_eq_true.1 h2
      have e : x = op := ba_ext (eq_of_beq he)
      subst e
      have : nmd3.any (fun y => y.toList == x.toList) = false := by
        simp only [List.mem_cons, List.not_mem_nil, or_false] at hx
        rcases hx with rfl | rfl | rfl | rfl | rfl | rfl <;> decide +kernel
      rw [this]; rfl
    | false =>
      rw [h2] at hs
      simp only [Bool.false_eq_true, if_false] at hs ⊢
      cases h3 : nmd3.any (fun x => x.toList == op.toList) with
      | true => rfl
      | false => rw [h3] at hs; cases hs
/-- The name of a group: its first fragment, where it is a name. -/
def rNm : List Fr → ByteArray
  | f :: _ => if (f.op.toList == [] && f.tok.kind == 1) = true then f.tok.text else ⟨#[]⟩
  | [] => ⟨#[]⟩
def rWord (ts : List Tok) (i : Nat) (x : ByteArray) : Bool := (x.toList != []) && (match ts[i]? with | some t => isNm t x | none => false)
/-- How many names behind the end of a group belong to it. -/
def rN (ts : List Tok) (i : Nat) (op : ByteArray) (kids : List Fr) : Nat :=
  if (rWord ts i op && (rWord ts (i + 1) (rNm kids) && stopsAt ts (i + 2))) = true then 2
  else if ((rWord ts i op || rWord ts i (rNm kids)) && stopsAt ts (i + 1)) = true then 1 else 0
theorem stop_nm {t : Tok} {x : ByteArray} (h : isStop t = true) (hn : isNm t x = true) : x = tEnd := by
  unfold isNm at hn
  simp only [Bool.and_eq_true, beq_iff_eq] at hn
  unfold isStop isSg isNm at h
  rw [hn.1] at h
  have e : ((1 : Int) == 5) = false := rfl
  simp only [e, Bool.false_and, Bool.false_or, Bool.and_eq_true, beq_iff_eq] at h
  exact ba_ext (hn.2.symm.trans h.2)
theorem next1 (i : Nat) {x : ByteArray} (hx : x.toList ≠ []) : nextAre ts i [x] = rWord ts (i + 1) x := by
  unfold rWord
  rw [show (x.toList != []) = true by rw [bne_iff_ne]; exact hx]
  simp only [nextAre, Bool.and_true, Bool.true_and]
  cases ts[i + 1]? <;> rfl
theorem next2 (i : Nat) {x y : ByteArray} (hx : x.toList ≠ []) (hy : y.toList ≠ []) : nextAre ts i [x, y] = (rWord ts (i + 1) x && rWord ts (i + 2) y) := by
  rw [← next1 (i + 1) hy, ← next1 i hx]
  simp only [nextAre, Bool.and_true]
theorem drop_n {s : Rst} (ho : s.g.op.toList ≠ []) (hk : ∀ f r, s.g.kids = f :: r → f.op.toList = [] → tokOk f.tok = true ∧ isCl f.tok = false) :
    (match dropN ts s with | some names => names.length | none => 0) = rN ts (s.at_ + 1) s.g.op s.g.kids := by
  have hE : (⟨#[]⟩ : ByteArray).toList = [] := by decide +kernel
  have hw0 : ∀ i, rWord ts i ⟨#[]⟩ = false := fun i => by unfold rWord; rw [hE]; rfl
  have plain : rNm s.g.kids = ⟨#[]⟩ → repeats s.g.op s.g.kids = [[s.g.op]] → (match dropN ts s with | some names => names.length | none => 0) = rN ts (s.at_ + 1) s.g.op s.g.kids := fun h1 h2 => by
    unfold dropN rN
    rw [h1, h2, hw0, hw0]
    simp only [List.find?_cons, List.find?_nil, next1 _ ho, List.length_cons, List.length_nil, Bool.false_and, Bool.and_false, Bool.false_eq_true, if_false, Bool.or_false, Nat.zero_add]
    cases rWord ts (s.at_ + 1) s.g.op && stopsAt ts (s.at_ + 1 + 1) <;> rfl
  cases hks : s.g.kids with
  | nil => rw [hks] at plain; exact plain rfl rfl
  | cons f r =>
    cases hc : (f.op.toList == [] && f.tok.kind == 1) with
    | false => rw [hks] at plain; exact plain (by unfold rNm; simp only [hc, Bool.false_eq_true, if_false]) (by unfold repeats; simp only [hc, Bool.false_eq_true, if_false])
    | true =>
      simp only [Bool.and_eq_true, beq_iff_eq] at hc
      obtain ⟨hok, hcl⟩ := hk f r hks hc.1
      have hne : f.tok.text.toList ≠ [] := by
        intro h
        have := tok_kind hok
        rw [toList_data] at h
        rw [h, hc.2] at this
        exact absurd this (by decide +kernel)
      have hnd : f.tok.text ≠ tEnd := by
        intro h
        have : isCl f.tok = true := (isCl_iff _).2 (.inr (.inr (.inr h)))
        rw [hcl] at this; cases this
      have hc' : (f.op.toList == [] && f.tok.kind == 1) = true := by simp [hc]
      have hr : repeats s.g.op (f :: r) = [[s.g.op], [f.tok.text], [s.g.op, f.tok.text]] := by unfold repeats; simp only [hc', if_true]
      have hn : rNm (f :: r) = f.tok.text := by unfold rNm; simp only [hc', if_true]
      have hx : rWord ts (s.at_ + 2) f.tok.text = true → stopsAt ts (s.at_ + 1 + 1) = true → False := by
        intro h1 h2
        unfold rWord at h1
        unfold stopsAt at h2
        rw [show s.at_ + 1 + 1 = s.at_ + 2 from rfl] at h2
        cases ht : ts[s.at_ + 2]? with
        | none => rw [ht] at h1; simp at h1
        | some t =>
          rw [ht] at h1 h2
          simp only [Bool.and_eq_true] at h1
          exact hnd (stop_nm h2 h1.2)
      unfold dropN rN
      rw [hks, hr, hn]
      simp only [List.find?_cons, List.find?_nil, next1 _ ho, next1 _ hne, next2 _ ho hne, List.length_cons, List.length_nil, Nat.zero_add]
      rw [show s.at_ + 1 + 1 = s.at_ + 2 from rfl] at hx ⊢
      rw [show s.at_ + 1 + (1 + 1) = s.at_ + 3 from rfl, show s.at_ + 1 + 2 = s.at_ + 3 from rfl]
      cases h1 : rWord ts (s.at_ + 1) s.g.op <;> cases h2 : stopsAt ts (s.at_ + 2) <;> cases h3 : rWord ts (s.at_ + 1) f.tok.text <;> cases h4 : rWord ts (s.at_ + 2) f.tok.text <;> cases h5 : stopsAt ts (s.at_ + 3) <;> first | rfl | exact (hx h4 h2).elim
/-- The first token of so many behind an index that is not valid. -/
def badAt (ts : List Tok) : Nat → Nat → Option Nat
  | 0, _ => none
  | n + 1, i => match ts[i]? with
    | some t => if tokOk t = true then badAt ts n (i + 1) else some i
    | none => some i
theorem pDrop_at2 : ∀ {n : Nat} {s : Rst}, (∀ j, j < n → ∃ t, ts[s.at_ + 1 + j]? = some t) → pDrop ts n s = match badAt ts n (s.at_ + 1) with | none => .ok { s with at_ := s.at_ + n } | some i => .bad 14 i
  | 0, s, _ => rfl
  | n + 1, s, h => by
    obtain ⟨t, ht⟩ := h 0 (by omega)
    rw [Nat.add_zero] at ht
    simp only [pDrop, badAt, ht]
    cases hok : tokOk t with
    | false => simp only [Bool.false_eq_true, if_false]
    | true =>
      simp only [if_true]
      rw [pDrop_at2 (s := { s with at_ := s.at_ + 1 }) (fun j hj => by
        obtain ⟨t, ht⟩ := h (j + 1) (by omega)
        exact ⟨t, by rw [← ht]; congr 1; show s.at_ + 1 + 1 + j = _; omega⟩)]
      have : s.at_ + 1 + n = s.at_ + (n + 1) := by omega
      simp only [this]
theorem next_some : ∀ {names : List ByteArray} {i : Nat}, nextAre ts i names = true → ∀ j, j < names.length → ∃ t, ts[i + 1 + j]? = some t := fun h j hj => by
  obtain ⟨t, ht, _⟩ := nextAre_names h j hj
  exact ⟨t, ht⟩
/-- The end of a group. -/
theorem V_close {s : Rst} {t : Tok} {g2 : Grp} {rest : List Grp} (hw : okWords ws = true) (hi : Inv ws s) (hs : s.stk = g2 :: rest) (ht : ts[s.at_]? = some t) (hok : tokOk t = true) (hc : rCl t = true) (hf : rFits t s.g.op = true)
    (hk : ∀ f r, s.g.kids = f :: r → f.op.toList = [] → tokOk f.tok = true ∧ isCl f.tok = false) :
    V ts ws s = match badAt ts (if nmd3.any (fun x => x.toList == s.g.op.toList) = true then rN ts (s.at_ + 1) s.g.op s.g.kids else 0) (s.at_ + 1) with
      | some i => .bad 14 i
      | none => V ts ws ⟨s.at_ + 1 + (if nmd3.any (fun x => x.toList == s.g.op.toList) = true then rN ts (s.at_ + 1) s.g.op s.g.kids else 0), addF g2 (.mk s.g.tok s.g.op s.g.kids), rest⟩ := by
  have hgi := hi.gi
  rw [hs] at hgi
  obtain ⟨_, _, _, hcs⟩ := hgi.pop
  have hne : s.g.op.toList ≠ [] := by
    intro e; rw [e, clo_nil hw] at hcs; cases hcs
  have hp : pEnd ts s = .ok ⟨s.at_, addF g2 (.mk s.g.tok s.g.op s.g.kids), rest⟩ := by
    unfold pEnd
    rw [hs, ht]
    simp only [fits_eq s.g.op hok, hf, Bool.not_true, Bool.false_eq_true, if_false]
  have hcl := clo_three hw s.g.op hcs
  rw [V_step ht hok]
  have e0 : pTake ts ws s = match (if nmd3.any (fun x => x.toList == s.g.op.toList) = true then pNamed ts s else pEnd ts s) with | .bad e i => .bad e i | .ok s' => .ok s' := by
    unfold pTake
    rw [ht]
    simp only [cl_eq hok, hc, if_true, hcl]
    cases nmd3.any (fun x => x.toList == s.g.op.toList) with
    | true => simp only [if_true]; cases pNamed ts s <;> rfl
    | false => simp only [Bool.false_eq_true, if_false]; cases pEnd ts s <;> rfl
  rw [e0]
  cases h3 : nmd3.any (fun x => x.toList == s.g.op.toList) with
  | false =>
    simp only [Bool.false_eq_true, if_false, hp, badAt]
    rfl
  | true =>
    simp only [if_true]
    have hn := drop_n (ts := ts) hne hk
    rw [← hn]
    have e1 : pNamed ts s = match dropN ts s with
        | some names => pDrop ts names.length ⟨s.at_, addF g2 (.mk s.g.tok s.g.op s.g.kids), rest⟩
        | none => .ok ⟨s.at_, addF g2 (.mk s.g.tok s.g.op s.g.kids), rest⟩ := by
      unfold pNamed dropN
      rw [hp]
      rfl
    rw [e1]
    cases hd : dropN ts s with
    | none => simp only [badAt]; rfl
    | some names =>
      have hna : nextAre ts s.at_ names = true := by
        have := List.find?_some hd
        simp only [Bool.and_eq_true] at this
        exact this.1
      simp only
      rw [pDrop_at2 (s := ⟨s.at_, addF g2 (.mk s.g.tok s.g.op s.g.kids), rest⟩) (next_some hna)]
      cases badAt ts names.length (s.at_ + 1) with
      | some i => rfl
      | none =>
        simp only [adv]
        congr 2
        omega
end
end Go.Proofs.YtopbmndjnjnmcaaGreatDoor
