/- Package fragment: what has been read is read back as the same; Alike of equal lists; the walk of FragBack. -/
import Derived.Test.YtopbmndjnjnmcaaGreatDoorMT
import Derived.Deep.RegionWith
/- (P9x) -/
namespace Go.Proofs.YtopbmndjnjnmcaaGreatDoor
open Go.RowKit Lx
theorem ba_ext {s t : ByteArray} (h : s.toList = t.toList) : s = t := by
  rw [toList_data, toList_data] at h
  cases s; cases t
  simp only [ByteArray.mk.injEq]
  exact Array.toList_inj.1 h
/-- What a reader looks at in a token. -/
def tK (t : Tok) : Int × ByteArray := (t.kind, t.text)
theorem isNm_K (t : Tok) (nm : ByteArray) : isNm t nm = true ↔ tK t = (1, nm) := by
  unfold isNm tK
  simp only [Bool.and_eq_true, beq_iff_eq, Prod.mk.injEq]
  constructor
  · rintro ⟨h1, h2⟩; exact ⟨h1, ba_ext h2⟩
  · rintro ⟨h1, h2⟩; exact ⟨h1, by rw [h2]⟩
theorem isNm_eqK {t t2 : Tok} (h : tK t = tK t2) (nm : ByteArray) : isNm t nm = isNm t2 nm := by
  rw [Bool.eq_iff_iff, isNm_K, isNm_K, h]
theorem isStop_K {t t2 : Tok} (h : tK t = tK t2) : isStop t = isStop t2 := by
  unfold tK at h
  simp only [Prod.mk.injEq] at h
  unfold isStop isSg isNm
  rw [h.1, h.2]
theorem isCl_iff (t : Tok) : isCl t = true ↔ t.text = bs1 41 ∨ t.text = bs1 93 ∨ t.text = bs1 125 ∨ t.text = tEnd := by
  unfold isCl
  rw [Lib.containsS_iff]
  simp

/-- All tokens of fragments, whatever their depth. -/
def toksU : List Fr → List Tok
  | [] => []
  | .mk t op ks :: r => (if op.toList = [] then [t] else t :: (toksU ks ++ [closeTok t op])) ++ toksU r
def tokFU (f : Fr) : List Tok := if f.op.toList = [] then [f.tok] else f.tok :: (toksU f.kids ++ [closeTok f.tok f.op])
theorem toksU_cons (f : Fr) (r : List Fr) : toksU (f :: r) = tokFU f ++ toksU r := by cases f; rw [toksU]; rfl
theorem toksU_app : ∀ a b : List Fr, toksU (a ++ b) = toksU a ++ toksU b
  | [], b => by simp [toksU]
  | f :: a, b => by rw [List.cons_append, toksU_cons, toksU_cons, toksU_app a b, List.append_assoc]
theorem toksU_P : ∀ (n : Nat) (l : List Fr) (d : Nat), fsz l < n → d + dep l ≤ 101 → toksP d l = toksU l
  | 0, _, _, h, _ => absurd h (Nat.not_lt_zero _)
  | n + 1, [], d, _, _ => by rw [toksP, toksU]
  | n + 1, f :: r, d, hn, hd => by
    rw [fsz_cons] at hn
    rw [dep_cons] at hd
    rw [toksP_cons, toksU_cons, toksU_P n r d (by omega) (by omega)]
    congr 1
    unfold tokF tokFU
    by_cases ho : f.op.toList = []
    · rw [if_pos ho, if_pos ho]
    · rw [if_neg ho] at hd
      rw [if_neg ho, if_neg ho, if_pos (by omega), toksU_P n f.kids (d + 1) (by omega) (by omega)]

/-- The tokens of the groups of a reader, the innermost one first. -/
def emL : List Grp → List Tok
  | [] => []
  | [g] => toksU g.kids
  | g :: g2 :: r => emL (g2 :: r) ++ (g.tok :: toksU g.kids)
theorem emL_add (g : Grp) (f : Fr) (r : List Grp) : emL (addF g f :: r) = emL (g :: r) ++ toksU [f] := by
  cases r with
  | nil => simp only [emL, addF, toksU_app]
  | cons a b => simp only [emL, addF, toksU_app, List.append_assoc, List.cons_append]
theorem toksU_one (f : Fr) : toksU [f] = tokFU f := by rw [toksU_cons, toksU, List.append_nil]

/-- What holds of the groups: all but the outermost one have an opening, which is their valid token's text; the outermost one has none; no fragment without groups closes. -/
structure GI (ws : List ByteArray) (l : List Grp) : Prop where
  grp : ∀ g ∈ l.dropLast, g.op = g.tok.text ∧ tokOk g.tok = true ∧ (clo ws g.op.toList).isSome = true
  last : (l.getLast?.map Grp.op) = some ⟨#[]⟩
  kid : ∀ g ∈ l, ∀ f ∈ g.kids, f.op.toList = [] → isCl f.tok = false
theorem GI.add {ws : List ByteArray} {g : Grp} {r : List Grp} {f : Fr} (h : GI ws (g :: r)) (hf : f.op.toList = [] → isCl f.tok = false) : GI ws (addF g f :: r) := by
  obtain ⟨h1, h2, h3⟩ := h
  refine ⟨?_, ?_, ?_⟩
  · cases r with
    | nil => intro x hx; cases hx
    | cons a b =>
      intro x hx
      rw [List.dropLast_cons_cons] at hx
      rcases List.mem_cons.1 hx with rfl | hx
      · exact h1 g (by rw [List.dropLast_cons_cons]; exact List.mem_cons_self)
      · exact h1 x (by rw [List.dropLast_cons_cons]; exact List.mem_cons_of_mem _ hx)
  · cases r with
    | nil => exact h2
    | cons a b => simpa [List.getLast?_cons_cons] using h2
  · intro x hx f' hf' ho
    rcases List.mem_cons.1 hx with rfl | hx
    · rcases List.mem_append.1 hf' with h | h
      · exact h3 g List.mem_cons_self f' h ho
      · obtain rfl := List.mem_singleton.1 h
        exact hf ho
    · exact h3 x (List.mem_cons_of_mem _ hx) f' hf' ho
theorem GI.pop {ws : List ByteArray} {g g2 : Grp} {r : List Grp} (h : GI ws (g :: g2 :: r)) : GI ws (g2 :: r) ∧ g.op = g.tok.text ∧ tokOk g.tok = true ∧ (clo ws g.op.toList).isSome = true := by
  obtain ⟨h1, h2, h3⟩ := h
  refine ⟨⟨fun x hx => h1 x (by rw [List.dropLast_cons_cons]; exact List.mem_cons_of_mem _ hx), by simpa [List.getLast?_cons_cons] using h2, fun x hx => h3 x (List.mem_cons_of_mem _ hx)⟩, h1 g (by rw [List.dropLast_cons_cons]; exact List.mem_cons_self)⟩
theorem GI.push {ws : List ByteArray} {g g2 : Grp} {r : List Grp} (h : GI ws (g2 :: r)) (h1 : g.op = g.tok.text) (h2 : tokOk g.tok = true) (h3 : (clo ws g.op.toList).isSome = true) (h4 : g.kids = []) : GI ws (g :: g2 :: r) := by
  obtain ⟨a1, a2, a3⟩ := h
  refine ⟨?_, by simpa [List.getLast?_cons_cons] using a2, ?_⟩
  · intro x hx
    rw [List.dropLast_cons_cons] at hx
    rcases List.mem_cons.1 hx with rfl | hx
    · exact ⟨h1, h2, h3⟩
    · exact a1 x hx
  · intro x hx f hf ho
    rcases List.mem_cons.1 hx with rfl | hx
    · rw [h4] at hf; cases hf
    · exact a3 x hx f hf ho
theorem GI.base {ws : List ByteArray} {g : Grp} (h : GI ws [g]) : g.op = ⟨#[]⟩ := by simpa using h.last
section
variable {ts : List Tok} {ws : List ByteArray}
theorem pDrop_at : ∀ {k : Nat} {s s' : Rst}, pDrop ts k s = .ok s' → s'.at_ = s.at_ + k
  | 0, _, _, h => by cases h; rfl
  | k + 1, s, s', h => by
    simp only [pDrop] at h
    split at h
    · split at h
      · have := pDrop_at h
        simp only at this; omega
      · cases h
    · cases h
/-- What find? finds in the law's lists of names. -/
def dropN (ts : List Tok) (s : Rst) : Option (List ByteArray) := (repeats s.g.op s.g.kids).find? (fun names => nextAre ts s.at_ names && stopsAt ts (s.at_ + 1 + names.length))
/-- The three ways of a step. -/
theorem pTake_cases {s s' : Rst} {t : Tok} (ht : ts[s.at_]? = some t) (h : pTake ts ws s = .ok s') :
    (isCl t = true ∧ ∃ g2 rest, s.stk = g2 :: rest ∧ (closeTok s.g.tok s.g.op).text = t.text ∧ s'.g = addF g2 (.mk s.g.tok s.g.op s.g.kids) ∧ s'.stk = rest ∧
      ((clo ws s.g.op.toList = some false ∧ s'.at_ = s.at_) ∨ (clo ws s.g.op.toList = some true ∧ ((dropN ts s = none ∧ s'.at_ = s.at_) ∨ ∃ names, dropN ts s = some names ∧ s'.at_ = s.at_ + names.length)))) ∨
    (isCl t = false ∧ pOpens ts ws s t = true ∧ s.stk.length + 1 ≤ 100 ∧ s' = ⟨s.at_, ⟨t, t.text, [], s.at_⟩, s.g :: s.stk⟩) ∨
    (isCl t = false ∧ pOpens ts ws s t = false ∧ s' = ⟨s.at_, addF s.g (.mk t ⟨#[]⟩ []), s.stk⟩) := by
  have hE : ∀ s1, pEnd ts s = .ok s1 → ∃ g2 rest, s.stk = g2 :: rest ∧ (closeTok s.g.tok s.g.op).text = t.text ∧ s1.g = addF g2 (.mk s.g.tok s.g.op s.g.kids) ∧ s1.stk = rest ∧ s1.at_ = s.at_ := fun s1 he => by
    unfold pEnd at he
    rw [ht] at he
    cases hk : s.stk with
    | nil => rw [hk] at he; cases he
    | cons g2 rest =>
      rw [hk] at he
      simp only at he
      split at he
      · cases he
      · rename_i hne
        cases he
        exact ⟨g2, rest, rfl, ba_ext (by simpa using hne), rfl, rfl, rfl⟩
  unfold pTake at h
  rw [ht] at h
  simp only at h
  cases hc : isCl t with
  | true =>
    rw [hc] at h
    simp only [if_true] at h
    refine .inl ⟨rfl, ?_⟩
    cases hcl : clo ws s.g.op.toList with
    | none => rw [hcl] at h; cases h
    | some b =>
      rw [hcl] at h
      cases b with
      | false =>
        obtain ⟨g2, rest, h1, h2, h3, h4, h5⟩ := hE s' h
        exact ⟨g2, rest, h1, h2, h3, h4, .inl ⟨rfl, h5⟩⟩
      | true =>
        simp only at h
        unfold pNamed at h
        cases he : pEnd ts s with
        | bad e i => rw [he] at h; cases h
        | ok s1 =>
          rw [he] at h
          simp only at h
          obtain ⟨g2, rest, h1, h2, h3, h4, h5⟩ := hE s1 he
          cases hf : dropN ts s with
          | none =>
            unfold dropN at hf
            rw [hf] at h
            cases h
            exact ⟨g2, rest, h1, h2, h3, h4, .inr ⟨rfl, .inl ⟨rfl, h5⟩⟩⟩
          | some names =>
            unfold dropN at hf
            rw [hf] at h
            simp only at h
            obtain ⟨a, b, _⟩ := pDrop_same h
            have := pDrop_at h
            exact ⟨g2, rest, h1, h2, a.trans h3, b.trans h4, .inr ⟨rfl, .inr ⟨names, rfl, by omega⟩⟩⟩
  | false =>
    rw [hc] at h
    simp only [Bool.false_eq_true, if_false] at h
    cases ho : pOpens ts ws s t with
    | true =>
      rw [ho] at h
      simp only [if_true] at h
      split at h
      · cases h
      · cases h; exact .inr (.inl ⟨rfl, rfl, by omega, rfl⟩)
    | false =>
      rw [ho] at h
      simp only [Bool.false_eq_true, if_false] at h
      cases h; exact .inr (.inr ⟨rfl, rfl, rfl⟩)

def emTok (s : Rst) (t : Tok) : Tok := if isCl t = true then closeTok s.g.tok s.g.op else t
def adv (s : Rst) : Rst := { s with at_ := s.at_ + 1 }
structure Inv (ws : List ByteArray) (s : Rst) : Prop where
  gi : GI ws (s.g :: s.stk)
  top : s.g.op.toList ≠ [] → (s.g.kids = [] ∧ s.g.from_ + 1 = s.at_) ∨ (s.g.kids ≠ [] ∧ s.g.from_ + 1 < s.at_)
  low : ∀ g ∈ s.stk, g.op.toList ≠ [] → g.from_ + 1 < s.at_
theorem closeTok_kind {t t2 : Tok} {op : ByteArray} (h : (closeTok t op).text = t2.text) (h2 : tokOk t2 = true) : tK (closeTok t op) = tK t2 := by
  have hk : (qKind t2.text.data.toList : Int) = t2.kind := by
    unfold tokOk at h2
    simp only [Bool.and_eq_true, Bool.not_eq_true', bne_eq_false_iff_eq] at h2
    exact h2.1.1.1.2
  unfold tK
  rw [h]
  congr 1
  rw [← hk, ← h]
  unfold closeTok
  split
  · exact (by decide +kernel : (5 : Int) = (qKind (bs1 41).data.toList : Int))
  · split
    · exact (by decide +kernel : (5 : Int) = (qKind (bs1 93).data.toList : Int))
    · split
      · exact (by decide +kernel : (5 : Int) = (qKind (bs1 125).data.toList : Int))
      · exact (by decide +kernel : (1 : Int) = (qKind tEnd.data.toList : Int))
theorem closeTok_ok {t : Tok} (op : ByteArray) (h : tokOk t = true) : tokOk (closeTok t op) = true := by
  have hk : decide (t.at_ < 0) = false ∧ decide (t.mark < 0) = false := by
    unfold tokOk at h
    simp only [Bool.and_eq_true, Bool.not_eq_true'] at h
    exact ⟨h.1.2, h.2⟩
  have key : ∀ (k : Int) (x : ByteArray), (!((qKind x.data.toList : Int) == 0) && !((qKind x.data.toList : Int) != k) && !((0 : Int) != qValue (qKind x.data.toList) x.data.toList)) = true → tokOk ⟨k, 0, x, t.at_, t.mark⟩ = true := fun k x hx => by
    unfold tokOk
    simp only
    rw [hx, hk.1, hk.2]
    rfl
  unfold closeTok
  split
  · exact key _ _ (by decide +kernel)
  · split
    · exact key _ _ (by decide +kernel)
    · split
      · exact key _ _ (by decide +kernel)
      · exact key _ _ (by decide +kernel)
theorem opens_clo {s : Rst} {t : Tok} (h : pOpens ts ws s t = true) : (clo ws t.text.toList).isSome = true := by
  unfold pOpens at h
  simp only [Bool.and_eq_true] at h
  exact h.1
/-- **A STEP.** -/
theorem step_inv {s s' : Rst} {t : Tok} (hc0 : clo ws [] = none) (hi : Inv ws s) (ht : ts[s.at_]? = some t) (hok : tokOk t = true) (h : pTake ts ws s = .ok s') :
    Inv ws (adv s') ∧ emL (s'.g :: s'.stk) = emL (s.g :: s.stk) ++ [emTok s t] ∧ tK (emTok s t) = tK t ∧ tokOk (emTok s t) = true ∧ (isCl t = false → s'.at_ = s.at_) ∧ s.at_ ≤ s'.at_ := by
  have hne : ∀ {x : ByteArray}, (clo ws x.toList).isSome = true → x.toList ≠ [] := fun hs e => by rw [e, hc0] at hs; cases hs
  rcases pTake_cases ht h with ⟨hcl, g2, rest, h1, h2, h3, h4, h5⟩ | ⟨hcl, h1, h2, rfl⟩ | ⟨hcl, h1, rfl⟩
  · have hge : s.at_ ≤ s'.at_ := by
      rcases h5 with ⟨_, h⟩ | ⟨_, ⟨_, h⟩ | ⟨names, _, h⟩⟩ <;> omega
    have hem : emTok s t = closeTok s.g.tok s.g.op := if_pos hcl
    have hgi := hi.gi
    rw [h1] at hgi
    obtain ⟨p1, p2, p3, p4⟩ := hgi.pop
    refine ⟨⟨?_, ?_, ?_⟩, ?_, ?_, ?_, (fun h => by rw [hcl] at h; cases h), hge⟩
    · show GI ws (s'.g :: s'.stk)
      rw [h3, h4]
      exact p1.add fun ho => absurd ho (hne p4)
    · intro ho
      refine .inr ⟨by show s'.g.kids ≠ []; rw [h3]; simp [addF], ?_⟩
      have := hi.low g2 (by rw [h1]; exact List.mem_cons_self) (by show g2.op.toList ≠ []; have e : s'.g.op = g2.op := by rw [h3]; rfl
                                                                   rw [← e]; exact ho)
      show s'.g.from_ + 1 < ((s'.at_ + 1 : Nat) : Int)
      rw [h3]
      show g2.from_ + 1 < _
      omega
    · intro g hg ho
      have := hi.low g (by rw [h1]; exact List.mem_cons_of_mem _ (by rw [← h4]; exact hg)) ho
      show g.from_ + 1 < ((s'.at_ + 1 : Nat) : Int)
      omega
    · rw [h3, h4, emL_add, h1, hem, toksU_one]
      have e : tokFU (.mk s.g.tok s.g.op s.g.kids) = s.g.tok :: (toksU s.g.kids ++ [closeTok s.g.tok s.g.op]) := if_neg (hne p4)
      rw [e]
      show _ = (emL (g2 :: rest) ++ (s.g.tok :: toksU s.g.kids)) ++ _
      simp [List.append_assoc]
    · rw [hem]; exact closeTok_kind h2 hok
    · rw [hem]; exact closeTok_ok _ p3
  · have hem : emTok s t = t := if_neg (by rw [hcl]; simp)
    refine ⟨⟨?_, ?_, ?_⟩, ?_, by rw [hem], by rw [hem]; exact hok, fun _ => rfl, Nat.le_refl _⟩
    · exact hi.gi.push rfl hok (opens_clo h1) rfl
    · intro _
      exact .inl ⟨rfl, rfl⟩
    · intro g hg ho
      show g.from_ + 1 < ((s.at_ + 1 : Nat) : Int)
      rcases List.mem_cons.1 hg with rfl | hg
      · rcases hi.top ho with ⟨_, h⟩ | ⟨_, h⟩ <;> omega
      · have := hi.low g hg ho; omega
    · rw [hem]
      show emL (_ :: s.g :: s.stk) = _
      simp [emL, toksU]
  · have hem : emTok s t = t := if_neg (by rw [hcl]; simp)
    refine ⟨⟨?_, ?_, ?_⟩, ?_, by rw [hem], by rw [hem]; exact hok, fun _ => rfl, Nat.le_refl _⟩
    · exact hi.gi.add fun _ => hcl
    · intro ho
      refine .inr ⟨by simp [adv, addF], ?_⟩
      show s.g.from_ + 1 < ((s.at_ + 1 : Nat) : Int)
      rcases hi.top ho with ⟨_, h⟩ | ⟨_, h⟩ <;> omega
    · intro g hg ho
      have := hi.low g hg ho
      show g.from_ + 1 < ((s.at_ + 1 : Nat) : Int)
      omega
    · rw [emL_add, hem, toksU_one]
      unfold tokFU
      rw [if_pos (by exact nil_toList)]
      rfl
end
section
variable {ts : List Tok} {ws : List ByteArray}
def emit (ts : List Tok) (ws : List ByteArray) : Nat → Rst → List Tok
  | 0, _ => []
  | n + 1, s => if s.at_ < ts.length then (match ts[s.at_]?, pTake ts ws s with
      | some t, .ok s' => emTok s t :: emit ts ws n (adv s')
      | _, _ => []) else []
/-- A run that goes well. -/
structure Run (ts : List Tok) (ws : List ByteArray) (sf : Rst) (n : Nat) (s : Rst) : Prop where
  go : pGo ts ws n s = .ok sf
  fuel : ts.length ≤ s.at_ + n
  inv : Inv ws s
theorem Run.done {sf s : Rst} {n : Nat} (h : Run ts ws sf n s) (hl : ts.length ≤ s.at_) : sf = s ∧ emit ts ws n s = [] := by
  have hg := h.go
  cases n with
  | zero => simp only [pGo] at hg; cases hg; exact ⟨rfl, rfl⟩
  | succ n =>
    simp only [pGo] at hg
    rw [if_neg (by omega)] at hg
    cases hg
    exact ⟨rfl, by unfold emit; rw [if_neg (by omega)]⟩
theorem Run.step (hc0 : clo ws [] = none) {sf s : Rst} {n : Nat} (h : Run ts ws sf n s) (hl : s.at_ < ts.length) : ∃ t s1 m, n = m + 1 ∧ ts[s.at_]? = some t ∧ tokOk t = true ∧ pTake ts ws s = .ok s1 ∧ emit ts ws n s = emTok s t :: emit ts ws m (adv s1) ∧ Run ts ws sf m (adv s1) := by
  obtain ⟨hg, hf, hi⟩ := h
  cases n with
  | zero => omega
  | succ n =>
    have ht := List.getElem?_eq_getElem hl
    simp only [pGo] at hg
    rw [if_pos hl] at hg
    split at hg
    · rename_i hck
      unfold pCheck at hck
      rw [ht] at hck
      cases hp : pTake ts ws s with
      | bad e i => rw [hp] at hg; cases hg
      | ok s1 =>
        rw [hp] at hg
        obtain ⟨h1, _, _, _, _, h6⟩ := step_inv hc0 hi ht hck hp
        refine ⟨_, s1, n, rfl, ht, hck, rfl, ?_, hg, by show ts.length ≤ s1.at_ + 1 + n; omega, h1⟩
        simp only [emit]
        rw [if_pos hl, ht, hp]
    · cases hg
theorem Run.head (hc0 : clo ws [] = none) {sf s : Rst} {n : Nat} (h : Run ts ws sf n s) : ((emit ts ws n s)[0]?).map tK = (ts[s.at_]?).map tK := by
  by_cases hl : s.at_ < ts.length
  · obtain ⟨t, s1, m, rfl, ht, hok, hp, he, hr⟩ := h.step hc0 hl
    obtain ⟨_, _, h3, _⟩ := step_inv hc0 h.inv ht hok hp
    rw [he, ht]
    simp [h3]
  · have e := List.getElem?_eq_none (l := ts) (i := s.at_) (by omega)
    rw [(h.done (by omega)).2, e]
    rfl
theorem nm_cl {t : Tok} {a : ByteArray} (hok : tokOk t = true) (hk : tK t = (1, a)) (ha : a ≠ tEnd) : isCl t = false := by
  cases hc : isCl t with
  | false => rfl
  | true =>
    exfalso
    have h1 : (qKind t.text.data.toList : Int) = t.kind := by
      unfold tokOk at hok
      simp only [Bool.and_eq_true, Bool.not_eq_true', bne_eq_false_iff_eq] at hok
      exact hok.1.1.1.2
    unfold tK at hk
    simp only [Prod.mk.injEq] at hk
    rw [hk.1] at h1
    rcases (isCl_iff t).1 hc with h | h | h | h
    · rw [h] at h1; exact absurd h1 (by decide +kernel)
    · rw [h] at h1; exact absurd h1 (by decide +kernel)
    · rw [h] at h1; exact absurd h1 (by decide +kernel)
    · exact ha (hk.2.symm.trans h)
/-- A name that is no end, ahead: the step behind it. -/
theorem Run.peek (hc0 : clo ws [] = none) {sf s : Rst} {n : Nat} {a : ByteArray} (h : Run ts ws sf n s) (hk : ((emit ts ws n s)[0]?).map tK = some (1, a)) (ha : a ≠ tEnd) :
    ∃ t m s', ts[s.at_]? = some t ∧ tK t = (1, a) ∧ Run ts ws sf m s' ∧ s'.at_ = s.at_ + 1 ∧ ∀ j, (emit ts ws n s)[j + 1]? = (emit ts ws m s')[j]? := by
  by_cases hl : s.at_ < ts.length
  · obtain ⟨t, s1, m, rfl, ht, hok, hp, he, hr⟩ := h.step hc0 hl
    obtain ⟨_, _, h3, _, h5, _⟩ := step_inv hc0 h.inv ht hok hp
    have hkt : tK t = (1, a) := by
      rw [he] at hk
      simp only [List.getElem?_cons_zero, Option.map_some, Option.some.injEq] at hk
      rw [← h3]; exact hk
    refine ⟨t, m, adv s1, ht, hkt, hr, by show s1.at_ + 1 = _; rw [h5 (nm_cl hok hkt ha)], fun j => ?_⟩
    rw [he, List.getElem?_cons_succ]
  · rw [(h.done (by omega)).2] at hk
    cases hk

/-- Lists of names, none of which is end. -/
def Names2 (names : List ByteArray) : Prop := (∃ a, names = [a] ∧ a ≠ tEnd) ∨ ∃ a b, names = [a, b] ∧ a ≠ tEnd ∧ b ≠ tEnd
theorem nextAre_hd {l : List Tok} {i : Nat} {a : ByteArray} {r : List ByteArray} : nextAre l i (a :: r) = true ↔ (l[i + 1]?).map tK = some (1, a) ∧ nextAre l (i + 1) r = true := by
  simp only [nextAre, Bool.and_eq_true]
  cases l[i + 1]? with
  | none => simp
  | some t => simp [isNm_K]
theorem stopsAt_K {l l2 : List Tok} {i j : Nat} (h : (l[i]?).map tK = (l2[j]?).map tK) : stopsAt l i = stopsAt l2 j := by
  unfold stopsAt
  cases h1 : l[i]? with
  | none =>
    cases h2 : l2[j]? with
    | none => rfl
    | some t => rw [h1, h2] at h; cases h
  | some t =>
    cases h2 : l2[j]? with
    | none => rw [h1, h2] at h; cases h
    | some t2 =>
      rw [h1, h2] at h
      exact isStop_K (by simpa using h)
/-- **WHAT FOLLOWS A GROUP IS NOT DROPPED AGAIN.** -/
theorem nodrop (hc0 : clo ws [] = none) {sf s2 : Rst} {n i at_ : Nat} {m : List Tok} {names : List ByteArray} (hr : Run ts ws sf n s2) (hm : ∀ j, m[i + 1 + j]? = (emit ts ws n s2)[j]?) (hn : Names2 names)
    (hcase : (s2.at_ = at_ + 1 ∧ (nextAre ts at_ names && stopsAt ts (at_ + 1 + names.length)) = false) ∨ stopsAt ts s2.at_ = true) : (nextAre m i names && stopsAt m (i + 1 + names.length)) = false := by
  cases hb : (nextAre m i names && stopsAt m (i + 1 + names.length)) with
  | false => rfl
  | true =>
    exfalso
    simp only [Bool.and_eq_true] at hb
    obtain ⟨h1, h2⟩ := hb
    have key : ∀ {a : ByteArray} {r : List ByteArray}, names = a :: r → a ≠ tEnd → ∃ t m' s', ts[s2.at_]? = some t ∧ tK t = (1, a) ∧ Run ts ws sf m' s' ∧ s'.at_ = s2.at_ + 1 ∧ (∀ j, m[i + 2 + j]? = (emit ts ws m' s')[j]?) := fun {a r} e ha => by
      rw [e] at h1
      have h3 := (nextAre_hd.1 h1).1
      rw [show i + 1 = i + 1 + 0 from rfl, hm 0] at h3
      obtain ⟨t, m', s', p1, p2, p3, p4, p5⟩ := hr.peek hc0 h3 ha
      exact ⟨t, m', s', p1, p2, p3, p4, fun j => by rw [show i + 2 + j = i + 1 + (j + 1) by omega, hm, p5]⟩
    have hstop : ∀ {a : ByteArray} {t : Tok}, ts[s2.at_]? = some t → tK t = (1, a) → a ≠ tEnd → stopsAt ts s2.at_ = false := fun {a t} ht hk ha => by
      unfold stopsAt
      rw [ht]
      unfold tK at hk
      simp only [Prod.mk.injEq] at hk
      have e : isStop t = (t.text.toList == tEnd.toList) := by
        unfold isStop isSg isNm
        rw [hk.1]
        rfl
      show isStop t = false
      rw [e, hk.2]
      cases hh : (a.toList == tEnd.toList)
      · rfl
      · exact absurd (ba_ext (eq_of_beq hh)) ha
    rcases hn with ⟨a, rfl, ha⟩ | ⟨a, b, rfl, ha, hb⟩
    · obtain ⟨t, m', s', p1, p2, p3, p4, p5⟩ := key rfl ha
      rcases hcase with ⟨q1, q2⟩ | q
      · have e0 : (ts[at_ + 1]?).map tK = some (1, a) := by rw [← q1, p1]; simp [p2]
        have e1 : (m[i + 1 + 1]?).map tK = (ts[at_ + 1 + 1]?).map tK := by
          rw [show i + 1 + 1 = i + 2 + 0 from rfl, p5 0, p3.head hc0, p4, q1]
        have : nextAre ts at_ [a] = true := nextAre_hd.2 ⟨e0, rfl⟩
        rw [this, Bool.true_and] at q2
        have h3 := stopsAt_K e1
        simp only [List.length_cons, List.length_nil, Nat.zero_add] at h2 q2
        rw [h3, q2] at h2
        cases h2
      · rw [hstop p1 p2 ha] at q; cases q
    · obtain ⟨t, m', s', p1, p2, p3, p4, p5⟩ := key rfl ha
      rcases hcase with ⟨q1, q2⟩ | q
      · have h4 := (nextAre_hd.1 (nextAre_hd.1 h1).2).1
        rw [show i + 1 + 1 = i + 2 + 0 from rfl, p5 0] at h4
        obtain ⟨t', m'', s'', r1, r2, r3, r4, r5⟩ := p3.peek hc0 h4 hb
        have e0 : (ts[at_ + 1]?).map tK = some (1, a) := by rw [← q1, p1]; simp [p2]
        have e1 : (ts[at_ + 1 + 1]?).map tK = some (1, b) := by
          rw [show at_ + 1 + 1 = s'.at_ by omega, r1]; simp [r2]
        have e2 : (m[i + 1 + 2]?).map tK = (ts[at_ + 1 + 2]?).map tK := by
          rw [show i + 1 + 2 = i + 2 + 1 by omega, p5 1, r5 0, r3.head hc0, r4, p4, q1]
        have : nextAre ts at_ [a, b] = true := nextAre_hd.2 ⟨e0, nextAre_hd.2 ⟨e1, rfl⟩⟩
        rw [this, Bool.true_and] at q2
        have h3 := stopsAt_K e2
        simp only [List.length_cons, List.length_nil, Nat.zero_add, Nat.reduceAdd] at h2 q2
        rw [h3, q2] at h2
        cases h2
      · rw [hstop p1 p2 ha] at q; cases q
end
section
variable {ts : List Tok} {ws : List ByteArray}
def er (g : Grp) : Tok × ByteArray × List Fr := (g.tok, g.op, g.kids)
def SimR (s s' : Rst) : Prop := (s.g :: s.stk).map er = (s'.g :: s'.stk).map er
theorem SimR.hd {s s' : Rst} (h : SimR s s') : s.g.tok = s'.g.tok ∧ s.g.op = s'.g.op ∧ s.g.kids = s'.g.kids ∧ s.stk.map er = s'.stk.map er := by
  unfold SimR at h
  simp only [List.map_cons, List.cons.injEq] at h
  obtain ⟨h1, h2⟩ := h
  unfold er at h1
  simp only [Prod.mk.injEq] at h1
  exact ⟨h1.1, h1.2.1, h1.2.2, h2⟩
theorem clo_true {s : ByteArray} (h : clo ws s.toList = some true) : s ≠ tEnd := by
  intro e
  subst e
  unfold clo at h
  split at h
  · cases h
  · split at h
    · cases h
    · split at h
      · rename_i h3
        exact absurd h3 (by decide +kernel)
      · cases h
theorem repeats_names {op : ByteArray} {kids : List Fr} (ho : op ≠ tEnd) (hk : ∀ f ∈ kids, f.op.toList = [] → isCl f.tok = false) {names : List ByteArray} (h : names ∈ repeats op kids) : Names2 names := by
  unfold repeats at h
  rcases List.mem_cons.1 h with rfl | h
  · exact .inl ⟨op, rfl, ho⟩
  · cases kids with
    | nil => cases h
    | cons f r =>
      simp only at h
      split at h
      · rename_i hc
        simp only [Bool.and_eq_true, beq_iff_eq] at hc
        have hf : f.tok.text ≠ tEnd := fun e => by
          have := hk f List.mem_cons_self hc.1
          rw [(isCl_iff f.tok).2 (.inr (.inr (.inr e)))] at this
          cases this
        rcases List.mem_cons.1 h with rfl | h
        · exact .inl ⟨_, rfl, hf⟩
        · rcases List.mem_cons.1 h with rfl | h
          · exact .inr ⟨_, _, rfl, ho, hf⟩
          · cases h
      · cases h
/-- Whether a name stands first in a group of macro. -/
theorem first_eq {s : Rst} (h : Inv ws s) : ((s.g.op.toList == tMacro.toList) && (s.g.from_ == (s.at_ : Int) - 1)) = ((s.g.op.toList == tMacro.toList) && s.g.kids.isEmpty) := by
  cases h1 : (s.g.op.toList == tMacro.toList) with
  | false => rfl
  | true =>
    have hne : s.g.op.toList ≠ [] := by rw [eq_of_beq h1]; decide +kernel
    rw [Bool.true_and, Bool.true_and]
    rcases h.top hne with ⟨h2, h3⟩ | ⟨h2, h3⟩
    · rw [h2]
      simp
      omega
    · have : s.g.kids.isEmpty = false := by cases hk : s.g.kids with
        | nil => exact absurd hk h2
        | cons a b => rfl
      rw [this]
      simp
      omega
theorem opens_eq {m : List Tok} {s s' : Rst} {t : Tok} (h : SimR s s') (hi : Inv ws s) (hi' : Inv ws s') (hn : nextAre ts s.at_ [tSlot] = nextAre m s'.at_ [tSlot]) : pOpens m ws s' t = pOpens ts ws s t := by
  obtain ⟨_, h2, h3, _⟩ := h.hd
  have e1 := first_eq hi
  have e2 := first_eq hi'
  rw [← h2, ← h3] at e2
  unfold pOpens
  rw [hn, ← h2, Bool.and_assoc, Bool.and_assoc, e1, e2]
theorem at_pre {pre : List Tok} {e : Tok} {rest : List Tok} : (pre ++ e :: rest)[pre.length]? = some e ∧ ∀ j, (pre ++ e :: rest)[pre.length + 1 + j]? = rest[j]? := by
  refine ⟨by rw [List.getElem?_append_right (Nat.le_refl _)]; simp, fun j => ?_⟩
  rw [List.getElem?_append_right (by omega), show pre.length + 1 + j - pre.length = j + 1 by omega, List.getElem?_cons_succ]
/-- **THE TOKENS OF WHAT HAS BEEN READ ARE READ AS THE SAME.** -/
theorem sim_go (hc0 : clo ws [] = none) {sf : Rst} : ∀ (n : Nat) (s s' : Rst) (pre m : List Tok), Run ts ws sf n s → m = pre ++ emit ts ws n s → s'.at_ = pre.length → SimR s s' → Inv ws s' →
    ∀ n', m.length ≤ s'.at_ + n' → ∃ sf', pGo m ws n' s' = .ok sf' ∧ SimR sf sf' := by
  intro n
  induction n with
  | zero =>
    intro s s' pre m hr hm ha hs hi' n' hn'
    have hl : ts.length ≤ s.at_ := hr.fuel
    obtain ⟨rfl, he⟩ := hr.done hl
    rw [he, List.append_nil] at hm
    subst hm
    refine ⟨s', ?_, hs⟩
    cases n' with
    | zero => rfl
    | succ n' => simp only [pGo]; rw [if_neg (by omega)]
  | succ n ih =>
    intro s s' pre m hr hm ha hs hi' n' hn'
    by_cases hl : s.at_ < ts.length
    · obtain ⟨t, s1, k, hk, ht, hok, hp, he, hr1⟩ := hr.step hc0 hl
      obtain rfl : n = k := by omega
      rw [he] at hm
      obtain ⟨hi1, _, hke, hoke, hat, _⟩ := step_inv hc0 hr.inv ht hok hp
      obtain ⟨m0, mj⟩ := at_pre (pre := pre) (e := emTok s t) (rest := emit ts ws n (adv s1))
      rw [← hm] at m0 mj
      rw [← ha] at m0 mj
      have hml : s'.at_ < m.length := (List.getElem?_eq_some_iff.1 m0).1
      obtain ⟨e1, e2, e3, e4⟩ := hs.hd
      have hcle : isCl (emTok s t) = isCl t := by
        have := congrArg Prod.snd hke
        simp only [tK] at this
        unfold isCl
        rw [this]
      have main : ∃ s1', pTake m ws s' = .ok s1' ∧ s1'.at_ = s'.at_ ∧ SimR (adv s1) (adv s1') := by
        rcases pTake_cases ht hp with ⟨hcl, g2, rest, h1, h2, h3, h4, h5⟩ | ⟨hcl, h1, h2, rfl⟩ | ⟨hcl, h1, rfl⟩
        · cases hk' : s'.stk with
          | nil => rw [h1, hk'] at e4; cases e4
          | cons g2' rest' =>
            rw [h1, hk'] at e4
            simp only [List.map_cons, List.cons.injEq] at e4
            obtain ⟨e5, e6⟩ := e4
            have hem : emTok s t = closeTok s.g.tok s.g.op := if_pos hcl
            have hend : pEnd m s' = .ok ⟨s'.at_, addF g2' (.mk s'.g.tok s'.g.op s'.g.kids), rest'⟩ := by
              unfold pEnd
              rw [hk', m0]
              simp only
              rw [if_neg (by rw [hem, ← e1, ← e2]; simp)]
            have hsim : SimR (adv s1) (adv ⟨s'.at_, addF g2' (.mk s'.g.tok s'.g.op s'.g.kids), rest'⟩) := by
              show (s1.g :: s1.stk).map er = (addF g2' (.mk s'.g.tok s'.g.op s'.g.kids) :: rest').map er
              rw [h3, h4, List.map_cons, List.map_cons, e6, e1, e2, e3]
              congr 1
              unfold er at e5
              simp only [Prod.mk.injEq] at e5
              unfold er addF
              simp only [e5.1, e5.2.1, e5.2.2]
            refine ⟨⟨s'.at_, addF g2' (.mk s'.g.tok s'.g.op s'.g.kids), rest'⟩, ?_, rfl, hsim⟩
            unfold pTake
            rw [m0]
            simp only
            rw [hcle, hcl, if_pos rfl]
            rcases h5 with ⟨hcl2, h5⟩ | ⟨hcl2, h5⟩
            · rw [show clo ws s'.g.op.toList = some false by rw [← e2]; exact hcl2]
              exact hend
            · rw [show clo ws s'.g.op.toList = some true by rw [← e2]; exact hcl2]
              simp only
              unfold pNamed
              rw [hend]
              simp only
              have hnone : (repeats s'.g.op s'.g.kids).find? (fun names => nextAre m s'.at_ names && stopsAt m (s'.at_ + 1 + names.length)) = none := by
                rw [List.find?_eq_none]
                intro names hnm
                have hn2 := repeats_names (clo_true hcl2) (fun f hf => hr.inv.gi.kid s.g List.mem_cons_self f hf) (by rw [← e2, ← e3] at hnm; exact hnm)
                have := nodrop hc0 (at_ := s.at_) hr1 mj hn2 (by
                  rcases h5 with ⟨hd, h5⟩ | ⟨nm, hd, h5⟩
                  · refine .inl ⟨by show s1.at_ + 1 = _; rw [h5], ?_⟩
                    unfold dropN at hd
                    rw [List.find?_eq_none] at hd
                    have := hd names (by rw [e2, e3]; exact hnm)
                    simpa using this
                  · refine .inr ?_
                    unfold dropN at hd
                    have := List.find?_some hd
                    simp only [Bool.and_eq_true] at this
                    show stopsAt ts (s1.at_ + 1) = true
                    rw [h5, show s.at_ + nm.length + 1 = s.at_ + 1 + nm.length by omega]
                    exact this.2)
                rw [this]
                simp
              rw [hnone]
        · have hem : emTok s t = t := if_neg (by rw [hcl]; simp)
          rw [hem] at m0
          have hnx : nextAre ts s.at_ [tSlot] = nextAre m s'.at_ [tSlot] := by
            rw [Bool.eq_iff_iff, nextAre_hd, nextAre_hd, show s'.at_ + 1 = s'.at_ + 1 + 0 from rfl, mj 0, hr1.head hc0]
            exact Iff.rfl
          have ho := opens_eq (t := t) hs hr.inv hi' hnx
          refine ⟨⟨s'.at_, ⟨t, t.text, [], s'.at_⟩, s'.g :: s'.stk⟩, ?_, rfl, ?_⟩
          · unfold pTake
            rw [m0]
            simp only
            rw [hcl, ho, h1]
            simp only [Bool.false_eq_true, if_false, if_true]
            rw [if_neg (by have := congrArg List.length e4; simp at this; omega)]
          · show (_ :: s.g :: s.stk).map er = (_ :: s'.g :: s'.stk).map er
            rw [List.map_cons, List.map_cons (f := er) (l := s'.g :: s'.stk), show (s.g :: s.stk).map er = (s'.g :: s'.stk).map er from hs]
            rfl
        · have hem : emTok s t = t := if_neg (by rw [hcl]; simp)
          rw [hem] at m0
          have hnx : nextAre ts s.at_ [tSlot] = nextAre m s'.at_ [tSlot] := by
            rw [Bool.eq_iff_iff, nextAre_hd, nextAre_hd, show s'.at_ + 1 = s'.at_ + 1 + 0 from rfl, mj 0, hr1.head hc0]
            exact Iff.rfl
          have ho := opens_eq (t := t) hs hr.inv hi' hnx
          refine ⟨⟨s'.at_, addF s'.g (.mk t ⟨#[]⟩ []), s'.stk⟩, ?_, rfl, ?_⟩
          · unfold pTake
            rw [m0]
            simp only
            rw [hcl, ho, h1]
            simp only [Bool.false_eq_true, if_false]
          · show (addF s.g (.mk t ⟨#[]⟩ []) :: s.stk).map er = (addF s'.g (.mk t ⟨#[]⟩ []) :: s'.stk).map er
            rw [List.map_cons, List.map_cons, e4]
            congr 1
            unfold er addF
            simp only [e1, e2, e3]
      obtain ⟨s1', hp', hat', hs1⟩ := main
      obtain ⟨hi1', _⟩ := step_inv hc0 hi' m0 hoke hp'
      obtain ⟨k', rfl⟩ : ∃ k', n' = k' + 1 := ⟨n' - 1, by omega⟩
      obtain ⟨sf', hg', hsf⟩ := ih (adv s1) (adv s1') (pre ++ [emTok s t]) m hr1 (by rw [hm, List.append_assoc]; rfl) (by show s1'.at_ + 1 = _; rw [hat', ha, List.length_append]; rfl) hs1 hi1' k' (by show m.length ≤ s1'.at_ + 1 + k'; omega)
      refine ⟨sf', ?_, hsf⟩
      simp only [pGo]
      rw [if_pos hml, show pCheck m s'.at_ = true by unfold pCheck; rw [m0]; exact hoke, if_pos rfl, hp']
      exact hg'
    · obtain ⟨rfl, he⟩ := hr.done (by omega)
      rw [he, List.append_nil] at hm
      subst hm
      refine ⟨s', ?_, hs⟩
      cases n' with
      | zero => rfl
      | succ n' => simp only [pGo]; rw [if_neg (by omega)]
end
section
variable {ts : List Tok} {ws : List ByteArray}
theorem Run.em (hc0 : clo ws [] = none) {sf : Rst} : ∀ {n : Nat} {s : Rst}, Run ts ws sf n s → emL (sf.g :: sf.stk) = emL (s.g :: s.stk) ++ emit ts ws n s ∧ (emit ts ws n s).length + s.at_ ≤ max ts.length s.at_
  | 0, s, h => by
    obtain ⟨rfl, he⟩ := h.done h.fuel
    rw [he]
    exact ⟨by simp, by simp; omega⟩
  | n + 1, s, h => by
    by_cases hl : s.at_ < ts.length
    · obtain ⟨t, s1, k, hk, ht, hok, hp, he, hr1⟩ := h.step hc0 hl
      obtain rfl : n = k := by omega
      obtain ⟨_, h2, _, _, _, h6⟩ := step_inv hc0 h.inv ht hok hp
      obtain ⟨i1, i2⟩ := Run.em hc0 hr1
      rw [he, i1]
      refine ⟨by show emL (s1.g :: s1.stk) ++ _ = _; rw [h2, List.append_assoc]; rfl, ?_⟩
      have : (adv s1).at_ = s1.at_ + 1 := rfl
      rw [this] at i2
      simp only [List.length_cons]
      omega
    · obtain ⟨rfl, he⟩ := h.done (by omega)
      rw [he]
      exact ⟨by simp, by simp; omega⟩
/-- How deep the groups are. -/
def DL : List Grp → Prop
  | [] => True
  | g :: r => dep g.kids + r.length ≤ 100 ∧ DL r
theorem dep_app : ∀ a b : List Fr, dep (a ++ b) = max (dep a) (dep b)
  | [], b => by simp [dep]
  | f :: a, b => by rw [List.cons_append, dep_cons, dep_cons, dep_app a b]; omega
theorem dep_one (f : Fr) : dep [f] = if f.op.toList = [] then 0 else 1 + dep f.kids := by rw [dep_cons, dep]; omega
theorem pTake_DL {s s' : Rst} {t : Tok} (ht : ts[s.at_]? = some t) (h : pTake ts ws s = .ok s') (hd : DL (s.g :: s.stk)) : DL (s'.g :: s'.stk) := by
  rcases pTake_cases ht h with ⟨_, g2, rest, h1, _, h3, h4, _⟩ | ⟨_, _, h2, rfl⟩ | ⟨_, _, rfl⟩
  · rw [h1] at hd
    obtain ⟨d1, d2, d3⟩ := hd
    rw [h3, h4]
    refine ⟨?_, d3⟩
    show dep (g2.kids ++ [_]) + rest.length ≤ 100
    rw [dep_app, dep_one]
    simp only [List.length_cons] at d1
    split
    · omega
    · show max (dep g2.kids) (1 + dep s.g.kids) + rest.length ≤ 100
      omega
  · exact ⟨by show dep [] + (s.g :: s.stk).length ≤ 100; rw [dep, List.length_cons]; omega, hd⟩
  · obtain ⟨d1, d2⟩ := hd
    refine ⟨?_, d2⟩
    show dep (s.g.kids ++ [_]) + s.stk.length ≤ 100
    rw [dep_app, dep_one, if_pos (by exact nil_toList)]
    omega
theorem Run.DL (hc0 : clo ws [] = none) {sf : Rst} : ∀ {n : Nat} {s : Rst}, Run ts ws sf n s → DL (s.g :: s.stk) → DL (sf.g :: sf.stk)
  | 0, s, h, hd => by
    obtain ⟨rfl, _⟩ := h.done h.fuel
    exact hd
  | n + 1, s, h, hd => by
    by_cases hl : s.at_ < ts.length
    · obtain ⟨t, s1, k, hk, ht, hok, hp, _, hr1⟩ := h.step hc0 hl
      obtain rfl : n = k := by omega
      have h2 := pTake_DL ht hp hd
      exact Run.DL hc0 hr1 h2
    · obtain ⟨rfl, _⟩ := h.done (by omega)
      exact hd

/-- The law's search of the tokens that are left. -/
def subN : List Tok → List Tok → Bool
  | _, [] => true
  | [], _ :: _ => false
  | t :: r, e :: m => if ((t.kind == e.kind) && (t.text.toList == e.text.toList)) = true then subN r m else (t.kind == 1) && subN r (e :: m)
inductive Emb : List Tok → List Tok → Prop
  | nil (r : List Tok) : Emb r []
  | take {t e : Tok} {r m : List Tok} (h : tK t = tK e) (hr : Emb r m) : Emb (t :: r) (e :: m)
  | skip {t : Tok} {r m : List Tok} (h : t.kind = 1) (hr : Emb r m) : Emb (t :: r) m
theorem Emb.drop {r m' : List Tok} (h : Emb r m') : ∀ {e : Tok} {m : List Tok}, m' = e :: m → e.kind = 1 → Emb r m := by
  induction h with
  | nil r => intro e m h; cases h
  | take h hr ih =>
    intro e m he hk
    cases he
    refine .skip ?_ hr
    have := congrArg Prod.fst h
    exact this.trans hk
  | skip h hr ih =>
    intro e m he hk
    exact .skip h (ih he hk)
theorem Emb.sub : ∀ {r m : List Tok}, Emb r m → subN r m = true
  | r, [], _ => by cases r <;> rfl
  | [], e :: m, h => by cases h
  | t :: r, e :: m, h => by
    rw [subN]
    by_cases hk : ((t.kind == e.kind) && (t.text.toList == e.text.toList)) = true
    · rw [if_pos hk]
      cases h with
      | take _ hr => exact hr.sub
      | skip h1 hr =>
        simp only [Bool.and_eq_true, beq_iff_eq] at hk
        exact (hr.drop rfl (hk.1.symm.trans h1)).sub
    · rw [if_neg hk]
      cases h with
      | take h1 hr =>
        exfalso
        apply hk
        unfold tK at h1
        simp only [Prod.mk.injEq] at h1
        rw [h1.1, h1.2]
        simp
      | skip h1 hr => rw [h1, hr.sub]; rfl
theorem Emb.skips {m : List Tok} : ∀ {k i : Nat}, (∀ j, j < k → ∃ t, ts[i + j]? = some t ∧ t.kind = 1) → Emb (ts.drop (i + k)) m → Emb (ts.drop i) m
  | 0, _, _, h => h
  | k + 1, i, hn, h => by
    obtain ⟨t, ht, hk⟩ := hn 0 (by omega)
    obtain ⟨h1, h2⟩ := List.getElem?_eq_some_iff.1 ht
    have := Emb.skips (k := k) (i := i + 1) (fun j hj => by obtain ⟨t, a, b⟩ := hn (j + 1) (by omega); exact ⟨t, by rw [show i + 1 + j = i + (j + 1) by omega]; exact a, b⟩) (by rw [show i + 1 + k = i + (k + 1) by omega]; exact h)
    rw [Nat.add_zero] at h1
    rw [List.drop_eq_getElem_cons h1]
    refine .skip ?_ this
    have e : ts[i] = t := by simpa using h2
    rw [e]; exact hk
theorem nextAre_names : ∀ {names : List ByteArray} {i : Nat}, nextAre ts i names = true → ∀ j, j < names.length → ∃ t, ts[i + 1 + j]? = some t ∧ t.kind = 1
  | [], _, _, j, hj => by cases hj
  | a :: r, i, h, j, hj => by
    obtain ⟨h1, h2⟩ := nextAre_hd.1 h
    cases j with
    | zero =>
      cases ht : ts[i + 1]? with
      | none => rw [ht] at h1; cases h1
      | some t =>
        rw [ht] at h1
        simp only [Option.map_some, Option.some.injEq] at h1
        exact ⟨t, rfl, congrArg Prod.fst h1⟩
    | succ j =>
      obtain ⟨t, a, b⟩ := nextAre_names h2 j (by simpa using hj)
      exact ⟨t, by rw [show i + 1 + (j + 1) = i + 1 + 1 + j by omega]; exact a, b⟩
theorem Run.emb (hc0 : clo ws [] = none) {sf : Rst} : ∀ {n : Nat} {s : Rst}, Run ts ws sf n s → Emb (ts.drop s.at_) (emit ts ws n s)
  | 0, s, h => by
    rw [(h.done h.fuel).2]; exact .nil _
  | n + 1, s, h => by
    by_cases hl : s.at_ < ts.length
    · obtain ⟨t, s1, k, hk, ht, hok, hp, he, hr1⟩ := h.step hc0 hl
      obtain rfl : n = k := by omega
      obtain ⟨_, _, h3, _, _, _⟩ := step_inv hc0 h.inv ht hok hp
      have ih := Run.emb hc0 hr1
      rw [he, List.drop_eq_getElem_cons hl]
      have e : ts[s.at_] = t := (List.getElem?_eq_some_iff.1 ht).2
      rw [e]
      refine .take h3.symm ?_
      rcases pTake_cases ht hp with ⟨_, g2, rest, _, _, _, _, h5⟩ | ⟨_, _, _, rfl⟩ | ⟨_, _, rfl⟩
      · have same : s1.at_ = s.at_ → Emb (ts.drop (s.at_ + 1)) (emit ts ws n (adv s1)) := fun e => by
          have : (adv s1).at_ = s.at_ + 1 := by show s1.at_ + 1 = _; rw [e]
          rw [this] at ih; exact ih
        rcases h5 with ⟨_, h⟩ | ⟨_, ⟨_, h⟩ | ⟨names, hd, h⟩⟩
        · exact same h
        · exact same h
        · unfold dropN at hd
          have := List.find?_some hd
          simp only [Bool.and_eq_true] at this
          refine Emb.skips (k := names.length) (nextAre_names this.1) ?_
          have e : (adv s1).at_ = s.at_ + 1 + names.length := by show s1.at_ + 1 = _; rw [h]; omega
          rw [e] at ih; exact ih
      · exact ih
      · exact ih
    · rw [(h.done (by omega)).2]; exact .nil _
end
theorem alikeF_refl (loose : Bool) : ∀ (n : Nat) (l : List Fr), fsz l < n → alikeF loose l l = true
  | 0, _, h => absurd h (Nat.not_lt_zero _)
  | n + 1, [], _ => by rw [alikeF]
  | n + 1, f :: r, h => by
    rw [fsz_cons] at h
    rw [alikeF_cons, alikeF_refl loose n f.kids (by omega), alikeF_refl loose n r (by omega)]
    unfold alikeT
    simp
theorem st0_inv (ws : List ByteArray) : Inv ws st0 := by
  refine ⟨⟨fun g hg => ?_, rfl, fun g hg f hf => ?_⟩, fun h => absurd nil_toList h, fun g hg => ?_⟩
  · cases hg
  · obtain rfl := List.mem_singleton.1 hg
    cases hf
  · cases hg
/-- **BACK.** -/
theorem back {ts : List Tok} {ws : List ByteArray} {l : List Fr} (h : pRead ts ws = .ok l) : checkP l ws = 0 ∧ pRead (flatP l) ws = .ok l ∧ (flatP l).length ≤ ts.length ∧ subN ts (flatP l) = true := by
  unfold pRead at h
  split at h
  · cases h
  · rename_i hw
    split at h
    · cases h
    · rename_i h6
      have hok : okWords ws = true := by simpa using hw
      have hc0 := clo_nil hok
      unfold pRead0 at h
      split at h
      · cases h
      · rename_i sf hg
        split at h
        · rename_i hsk
          cases h
          have hsk0 : sf.stk = [] := List.eq_nil_of_length_eq_zero hsk
          have hinv : Inv ws st0 := st0_inv ws
          have hr : Run ts ws sf ts.length st0 := ⟨hg, by simp [st0], hinv⟩
          obtain ⟨e1, e2⟩ := hr.em hc0
          rw [hsk0] at e1
          have e3 : toksU sf.g.kids = emit ts ws ts.length st0 := by
            have : emL (st0.g :: st0.stk) = [] := by simp [emL, st0, toksU]
            rw [this, List.nil_append] at e1
            exact e1
          have e4 : (toksU sf.g.kids).length ≤ ts.length := by rw [e3]; rw [show st0.at_ = 0 from rfl] at e2; omega
          have hdl := hr.DL hc0 (by show DL [_]; exact ⟨by show dep [] + 0 ≤ 100; rw [dep]; omega, trivial⟩)
          rw [hsk0] at hdl
          have hdep : dep sf.g.kids ≤ 100 := by have := hdl.1; simpa using this
          have hP : toksP 1 sf.g.kids = toksU sf.g.kids := toksU_P (fsz sf.g.kids + 1) sf.g.kids 1 (Nat.lt_succ_self _) (by omega)
          have hdp := depthP_dep sf.g.kids
          have hsz : sizeP sf.g.kids = (toksU sf.g.kids).length := by unfold sizeP; rw [hP]; omega
          have hfl : flatP sf.g.kids = toksU sf.g.kids := by
            unfold flatP fitsP
            rw [if_pos (by simp; omega), hP]
          obtain ⟨sf', hg', hsf⟩ := sim_go hc0 ts.length st0 st0 [] (toksU sf.g.kids) hr (by rw [e3]; rfl) rfl rfl hinv (toksU sf.g.kids).length (by simp [st0])
          obtain ⟨_, _, k3, k4⟩ := hsf.hd
          have hread : pRead (toksU sf.g.kids) ws = .ok sf.g.kids := by
            unfold pRead
            rw [hok]
            simp only [Bool.true_eq_false, if_false]
            rw [if_neg (by omega)]
            unfold pRead0
            rw [hg']
            simp only
            rw [if_pos (by have := congrArg List.length k4; rw [hsk0] at this; simpa using this.symm), k3]
          have hemb := (hr.emb hc0).sub
          rw [← e3] at hemb
          refine ⟨checkP_ok.2 ⟨hok, by omega, by omega, by rw [hfl, hP], sf.g.kids, by rw [hP]; exact hread, ?_⟩, by rw [hfl]; exact hread, by rw [hfl]; exact e4, by rw [hfl]; exact hemb⟩
          unfold sameP
          rw [alikeF_refl true (fsz sf.g.kids + 1) _ (Nat.lt_succ_self _)]
          simp; omega
        · cases h
end Go.Proofs.YtopbmndjnjnmcaaGreatDoor
/- (A1body) -/
namespace Go.Proofs.YtopbmndjnjnmcaaGreatDoor
open Go.RowKit Lx
attribute [local go_sem] Oper.semAt_some

set_option maxRecDepth 100000 in
set_option maxHeartbeats 8000000 in
/-- **Alike**, strict, of equal lists -/
theorem alikeS_any (S S2 : Nat → Prop) : ∀ (n : Nat) (l : List Fr) (v v2 : Value) (w : World), fsz l < n → FrRead w S v l → FrRead w S2 v2 l →
    Calls Tryz.prog 20 #[v, v2, .bool false] w fun e W => e = .returned (.bool true) ∧ Below w.heap.size w W := by
  intro n
  induction n with
  | zero => intro l v v2 w h; omega
  | succ n ih =>
    intro l v v2 w hn hr hr2
    obtain ⟨va, vc, vg, vo, rfl, ⟨hm1, hm2⟩, ha, hat⟩ := hr
    obtain ⟨ua, uc, ug, uo, rfl, ⟨hu1, hu2⟩, hua, huat⟩ := hr2
    have HAT := Lib.hid hat
    have HA := Lib.hid ha
    have HUT := Lib.hid huat
    have HU := Lib.hid hua
    unfold maxLen at hm1 hu1
    clear hat ha huat hua
    go_enter Tryz.func20, Tryz.ntmps20
    go_wp2_with fail
    go_loopw [7] (fun x wr => ∃ (k : Nat), k ≤ l.length ∧ x = .int .i64 k ∧ Hid (Below w.heap.size w wr)) (fun x _ => l.length - (intOf x).toNat)
    case atStart => exact ⟨0, by omega, rfl, Lib.hid (Below.refl _ _)⟩
    case round =>
      obtain ⟨k, hk, rfl, HB⟩ := hrel
      by_cases hlt : k < l.length
      · obtain ⟨f, hf⟩ : ∃ f, l[k]? = some f := ⟨_, List.getElem?_eq_getElem hlt⟩
        have hva : va = some ⟨vg, vo, none⟩ := HA.out (by intro h; rw [h] at hlt; simp at hlt)
        have hua : ua = some ⟨ug, uo, none⟩ := HU.out (by intro h; rw [h] at hlt; simp at hlt)
        subst hva hua
        obtain ⟨kv, hs, hg, c0, c1, c2, c3, c4, c5, c6, hkr⟩ := HAT.out.get hf
        obtain ⟨kv2, hs2, hgu, d0, d1, d2, d3, d4, d5, d6, hkr2⟩ := HUT.out.get hf
        have hfn : fsz f.kids < n := by have := fsz_kids hf; omega
        obtain ⟨tk, htk⟩ : ∃ t, f.tok.kind = t := ⟨_, rfl⟩
        obtain ⟨tn, htn⟩ : ∃ t, f.tok.num = t := ⟨_, rfl⟩
        obtain ⟨tt, htt⟩ : ∃ t, f.tok.text = t := ⟨_, rfl⟩
        obtain ⟨ta, hta⟩ : ∃ t, f.tok.at_ = t := ⟨_, rfl⟩
        obtain ⟨tm, htm⟩ : ∃ t, f.tok.mark = t := ⟨_, rfl⟩
        obtain ⟨fo, hfo⟩ : ∃ t, f.op = t := ⟨_, rfl⟩
        rw [htk] at c0 d0
        rw [htn] at c1 d1
        rw [htt] at c2 d2
        rw [hta] at c3 d3
        rw [htm] at c4 d4
        rw [hfo] at c5 d5
        have m0 := (HB.out.cell (p := ⟨vg, vo + k * 7, none⟩) hg).trans c0
        have m1 := (HB.out.cell (p := ⟨vg, vo + k * 7 + 1, none⟩) hg).trans c1
        have m2 := (HB.out.cell (p := ⟨vg, vo + k * 7 + 2, none⟩) hg).trans c2
        have m3 := (HB.out.cell (p := ⟨vg, vo + k * 7 + 3, none⟩) hg).trans c3
        have m4 := (HB.out.cell (p := ⟨vg, vo + k * 7 + 4, none⟩) hg).trans c4
        have h1 := (Below.refl wr.heap.size wr).alloc (Nat.le_refl _) (.cells #[.int .i64 tk, .int .i64 tn, .string tt, .int .i64 ta, .int .i64 tm] 50)
        have b1 := HB.out.trans (h1.mono HB.out.size)
        have n0 := (b1.cell (p := ⟨ug, uo + k * 7, none⟩) hgu).trans d0
        have n1 := (b1.cell (p := ⟨ug, uo + k * 7 + 1, none⟩) hgu).trans d1
        have n2 := (b1.cell (p := ⟨ug, uo + k * 7 + 2, none⟩) hgu).trans d2
        have n3 := (b1.cell (p := ⟨ug, uo + k * 7 + 3, none⟩) hgu).trans d3
        have n4 := (b1.cell (p := ⟨ug, uo + k * 7 + 4, none⟩) hgu).trans d4
        have h2 := (Below.refl _ (wr.alloc (.cells #[.int .i64 tk, .int .i64 tn, .string tt, .int .i64 ta, .int .i64 tm] 50))).alloc (Nat.le_refl _) (.cells #[.int .i64 tk, .int .i64 tn, .string tt, .int .i64 ta, .int .i64 tm] 50)
        have b2 := b1.trans (h2.mono b1.size)
        have q5 := (b2.cell (p := ⟨vg, vo + k * 7 + 5, none⟩) hg).trans c5
        have q6 := (b2.cell (p := ⟨vg, vo + k * 7 + 6, none⟩) hg).trans c6
        have r5 := (b2.cell (p := ⟨ug, uo + k * 7 + 5, none⟩) hgu).trans d5
        have r6 := (b2.cell (p := ⟨ug, uo + k * 7 + 6, none⟩) hgu).trans d6
        have k1 : (k : Int) < (l.length : Int) := by omega
        have hlw : wr.heap.size = wr.heap.size := rfl
        have HIH := Lib.hid (fun (W : World) (hb : Below w.heap.size w W) => ih f.kids kv kv2 W hfn (hkr.bl hb) (hkr2.bl hb))
        have z5 : (((wr.alloc (.cells #[.int .i64 tk, .int .i64 tn, .string tt, .int .i64 ta, .int .i64 tm] 50)).alloc (.cells #[.int .i64 tk, .int .i64 tn, .string tt, .int .i64 ta, .int .i64 tm] 50)).drew).cell? ⟨vg, vo + k * 7 + 5, none⟩ = some (.string fo) := q5
        have z6 : (((wr.alloc (.cells #[.int .i64 tk, .int .i64 tn, .string tt, .int .i64 ta, .int .i64 tm] 50)).alloc (.cells #[.int .i64 tk, .int .i64 tn, .string tt, .int .i64 ta, .int .i64 tm] 50)).drew).cell? ⟨vg, vo + k * 7 + 6, none⟩ = some kv := q6
        have x5 : (((wr.alloc (.cells #[.int .i64 tk, .int .i64 tn, .string tt, .int .i64 ta, .int .i64 tm] 50)).alloc (.cells #[.int .i64 tk, .int .i64 tn, .string tt, .int .i64 ta, .int .i64 tm] 50)).drew).cell? ⟨ug, uo + k * 7 + 5, none⟩ = some (.string fo) := r5
        have x6 : (((wr.alloc (.cells #[.int .i64 tk, .int .i64 tn, .string tt, .int .i64 ta, .int .i64 tm] 50)).alloc (.cells #[.int .i64 tk, .int .i64 tn, .string tt, .int .i64 ta, .int .i64 tm] 50)).drew).cell? ⟨ug, uo + k * 7 + 6, none⟩ = some kv2 := r6
        have BD := Lib.hid b2.drew
        clear c0 c1 c2 c3 c4 c5 c6 d0 d1 d2 d3 d4 d5 d6 hs hs2 hkr hkr2 h1 h2 b1 b2 hf htk htn htt hta htm hfo hfn hlw
        go_upto_region 9 with fail
        go_region_held3 (fun w' => w'.cell? ⟨vg, vo + k * 7 + 5, none⟩ = some (.string fo) ∧ w'.cell? ⟨vg, vo + k * 7 + 6, none⟩ = some kv ∧ w'.cell? ⟨ug, uo + k * 7 + 5, none⟩ = some (.string fo) ∧ w'.cell? ⟨ug, uo + k * 7 + 6, none⟩ = some kv2)
          (first | exact ⟨z5, z6, x5, x6⟩ | exact ⟨q5, q6, r5, r6⟩ | exact ⟨u5, u6, y5, y6⟩ | go_keep)
          (first
            | (go_at_call 20; go_must (refine (HIH.out _ BD.out).mono ?_); rintro e W5 ⟨rfl, hb5⟩; have B5 := Lib.hid (BD.out.trans (hb5.mono BD.out.size)); have u5 := (hb5.cell (p := ⟨vg, vo + k * 7 + 5, none⟩) (block_lt z5)).trans z5; have u6 := (hb5.cell (p := ⟨vg, vo + k * 7 + 6, none⟩) (block_lt z6)).trans z6; have y5 := (hb5.cell (p := ⟨ug, uo + k * 7 + 5, none⟩) (block_lt x5)).trans x5; have y6 := (hb5.cell (p := ⟨ug, uo + k * 7 + 6, none⟩) (block_lt x6)).trans x6))
        go_wp2_with fail
        go_roundw
        case rel => exact ⟨k + 1, by omega, rfl, B5⟩
        case measure => simp [intOf]; omega
      · obtain rfl : k = l.length := by omega
        go_wp2_with fail
        go_ret
        exact ⟨rfl, HB.out⟩
end Go.Proofs.YtopbmndjnjnmcaaGreatDoor
/- (P10body) -/
namespace Go.Proofs.YtopbmndjnjnmcaaGreatDoor
open Go.RowKit Lx
theorem TxtOk.app : ∀ {a b : List Fr}, TxtOk a → TxtOk b → TxtOk (a ++ b)
  | [], _, _, h => h
  | f :: a, b, h, hb => by
    obtain ⟨h1, h2, h3, h4⟩ := txtOk_cons.1 h
    rw [List.cons_append]
    exact txtOk_cons.2 ⟨h1, h2, h3, TxtOk.app h4 hb⟩
section
variable {ts : List Tok} {ws : List ByteArray}
def TxI (s : Rst) : Prop := ∀ g ∈ s.g :: s.stk, TxtOk g.kids ∧ g.tok.text.size ≤ maxLen ∧ g.op.size ≤ maxLen
theorem pTake_txi {s s' : Rst} {t : Tok} (hz : ∀ t ∈ ts, t.text.size ≤ maxLen) (ht : ts[s.at_]? = some t) (h : pTake ts ws s = .ok s') (hs : TxI s) : TxI s' := by
  have htz := hz t (List.mem_of_getElem? ht)
  rcases pTake_cases ht h with ⟨_, g2, rest, h1, _, h3, h4, _⟩ | ⟨_, _, h2, rfl⟩ | ⟨_, _, rfl⟩
  · unfold TxI at hs ⊢
    rw [h1] at hs
    rw [h3, h4]
    intro g hg
    obtain ⟨b1, b2, b3⟩ := hs s.g List.mem_cons_self
    rcases List.mem_cons.1 hg with rfl | hg
    · obtain ⟨a1, a2, a3⟩ := hs g2 (List.mem_cons_of_mem _ List.mem_cons_self)
      exact ⟨a1.app (txtOk_cons.2 ⟨b2, b3, b1, .nil⟩), a2, a3⟩
    · exact hs g (List.mem_cons_of_mem _ (List.mem_cons_of_mem _ hg))
  · intro g hg
    rcases List.mem_cons.1 hg with rfl | hg
    · exact ⟨.nil, htz, htz⟩
    · exact hs g hg
  · intro g hg
    rcases List.mem_cons.1 hg with rfl | hg
    · obtain ⟨a1, a2, a3⟩ := hs s.g List.mem_cons_self
      exact ⟨a1.app (txtOk_cons.2 ⟨htz, Nat.zero_le _, .nil, .nil⟩), a2, a3⟩
    · exact hs g (List.mem_cons_of_mem _ hg)
theorem pGo_txi (hz : ∀ t ∈ ts, t.text.size ≤ maxLen) : ∀ {n : Nat} {s s' : Rst}, pGo ts ws n s = .ok s' → TxI s → TxI s'
  | 0, _, _, h, hs => by cases h; exact hs
  | n + 1, s, s', h, hs => by
    simp only [pGo] at h
    split at h
    · rename_i hl
      split at h
      · split at h
        · cases h
        · rename_i s1 hp
          exact pGo_txi hz h (fun g hg => pTake_txi hz (List.getElem?_eq_getElem hl) hp hs g hg)
      · cases h
    · cases h; exact hs
/-- What has been read has short texts, if the tokens have. -/
theorem pRead_txt (hz : ∀ t ∈ ts, t.text.size ≤ maxLen) {l : List Fr} (h : pRead ts ws = .ok l) : TxtOk l := by
  unfold pRead at h
  split at h
  · cases h
  · split at h
    · cases h
    · unfold pRead0 at h
      split at h
      · cases h
      · rename_i s hg
        split at h
        · cases h
          refine (pGo_txi hz hg ?_ s.g List.mem_cons_self).1
          intro g hg
          rcases List.mem_cons.1 hg with rfl | hg
          · exact ⟨.nil, Nat.zero_le _, Nat.zero_le _⟩
          · cases hg
        · cases h
end
theorem subN_drop {ts ms : List Tok} {j i : Nat} {t e : Tok} (ht : ts[j]? = some t) (he : ms[i]? = some e) : subN (ts.drop j) (ms.drop i) = if ((t.kind == e.kind) && (t.text.toList == e.text.toList)) = true then subN (ts.drop (j + 1)) (ms.drop (i + 1)) else (t.kind == 1) && subN (ts.drop (j + 1)) (ms.drop i) := by
  obtain ⟨a1, a2⟩ := List.getElem?_eq_some_iff.1 ht
  obtain ⟨b1, b2⟩ := List.getElem?_eq_some_iff.1 he
  rw [List.drop_eq_getElem_cons a1, List.drop_eq_getElem_cons b1, a2, b2, subN]
end Go.Proofs.YtopbmndjnjnmcaaGreatDoor
/- (W7body) -/
namespace Go.Proofs.YtopbmndjnjnmcaaGreatDoor
open Go.RowKit Lx
attribute [local go_sem] Oper.semAt_some

set_option maxRecDepth 100000 in
set_option maxHeartbeats 16000000 in
/-- **FragBack** -/
theorem fragBack_any (ts : List Tok) (ws : List ByteArray) (vt vw : Value) (w : World) (he : Env w) (hr : TokRead w vt ts) (hw : StrRead w vw ws) (hzs : ∀ s ∈ ws, s.size ≤ maxLen) (hzt : ∀ t ∈ ts, t.text.size ≤ maxLen) :
    Calls Tryz.prog 7 #[vt, vw] w fun e W => e = .returned (.bool true) ∧ Below w.heap.size w W := by
  have HE := Lib.hid he
  have HT := Lib.hid hr
  have HW := Lib.hid hw
  have HZS := Lib.hid hzs
  have HZT := Lib.hid hzt
  obtain ⟨ta, tc, rfl, ⟨htl, htc⟩, htcell⟩ := hr
  obtain ⟨wa, wc, rfl, _⟩ := hw
  have HTC := Lib.hid htcell
  unfold maxLen at htl
  clear he hzs hzt htcell
  go_enter Tryz.func7, Tryz.ntmps7
  go_wp2_with fail
  go_at_call 14
  refine (sane02_any _ HE.out).mono ?_
  rintro e W1 ⟨rfl, hb⟩
  have B1 := Lib.hid hb
  clear hb
  go_wp2_with fail
  go_at_call 15
  refine (fragRead_any ts ws _ _ _ (HT.out.bl B1.out) (HW.out.bl B1.out) (HE.out.below B1.out) HZS.out HZT.out).mono ?_
  rintro e W2 hend
  cases hpr : pRead ts ws with
  | bad er i =>
    obtain ⟨hb, rfl⟩ := read_bad hend hpr
    have hne := pRead_ne HZT.out hpr
    have B2 := Lib.hid (B1.out.trans (hb.mono B1.out.size))
    have h3 : ((er : Int) != 0) = true := by simp; omega
    clear hend hb hpr hne
    go_wp2_with fail
    go_ret
    exact ⟨rfl, B2.out⟩
  | ok l =>
    obtain ⟨hb, va, ca, rfl, hfr⟩ := read_ok hend hpr
    have B2 := Lib.hid (B1.out.trans (hb.mono B1.out.size))
    obtain ⟨hck, hre, hml, hsub⟩ := back hpr
    have HTX := Lib.hid (pRead_txt HZT.out hpr)
    have HFR := Lib.hid hfr
    obtain ⟨ms, hms⟩ : ∃ ms, flatP l = ms := ⟨_, rfl⟩
    have HZM : Hid (∀ t ∈ ms, t.text.size ≤ maxLen) := Lib.hid (by rw [← hms]; exact flatP_txt HTX.out)
    rw [hms] at hre hml hsub
    have HCK := Lib.hid hck
    have HRE := Lib.hid hre
    have HSUB := Lib.hid hsub
    have HMS := Lib.hid hms
    clear hend hb hpr hfr hck hre hsub hms
    go_wp2_with fail
    go_at_call 28
    refine (flat_any (fun _ => True) l _ _ HFR.out).mono ?_
    rintro e W3 ⟨ma, mn, mc, rfl, htr, _, hb⟩
    rw [HMS.out] at htr
    have B3 := Lib.hid (B2.out.trans (hb.mono B2.out.size))
    have HFR3 := Lib.hid (HFR.out.bl hb)
    have HTR := Lib.hid htr
    obtain ⟨ma', mc', hv, ⟨hmm, hmc⟩, _⟩ := htr
    simp only [Value.slice.injEq] at hv
    obtain ⟨rfl, rfl, rfl⟩ := hv
    clear hb
    go_wp2_with fail
    go_at_call 15
    refine (fragRead_any ms ws _ _ _ HTR.out (HW.out.bl B3.out) (HE.out.below B3.out) HZS.out HZM.out).mono ?_
    rintro e W4 hend
    obtain ⟨hb, vb, cb, rfl, hfr⟩ := read_ok hend HRE.out
    have B4 := Lib.hid (B3.out.trans (hb.mono B3.out.size))
    have HFR4 := Lib.hid (HFR3.out.bl hb)
    have HTR4 := Lib.hid (HTR.out.bl hb)
    have HFB := Lib.hid hfr
    clear hend hb hfr
    go_wp2_with fail
    go_at_call 30
    refine (fragCheck_any (fun _ => True) l ws _ _ _ (HE.out.below B4.out) HFR4.out (HW.out.bl B4.out) HZS.out HTX.out).mono ?_
    rintro e W5 ⟨rfl, hb⟩
    rw [HCK.out]
    have B5 := Lib.hid (B4.out.trans (hb.mono B4.out.size))
    have HFR5 := Lib.hid (HFR4.out.bl hb)
    have HTR5 := Lib.hid (HTR4.out.bl hb)
    have HFB5 := Lib.hid (HFB.out.bl hb)
    clear hb
    go_wp2_with fail
    go_at_call 20
    refine (alikeS_any (fun _ => True) (fun _ => True) (fsz l + 1) l _ _ _ (Nat.lt_succ_self _) HFR5.out HFB5.out).mono ?_
    rintro e W6 ⟨rfl, hb⟩
    have B6 := Lib.hid (B5.out.trans (hb.mono B5.out.size))
    have HTR6 := HTR5.out.bl hb
    obtain ⟨ma2, mc2, hv, _, hmcell⟩ := HTR6
    simp only [Value.slice.injEq, true_and] at hv
    obtain ⟨rfl, rfl⟩ := hv
    have HMC := Lib.hid hmcell
    clear hb hmcell
    go_wp2_with fail
    go_loopw [13, 14] (fun y13 y14 wr => ∃ (i j : Nat), i ≤ ms.length ∧ j ≤ ts.length ∧ y14 = .int .i64 i ∧ y13 = .int .i64 j ∧ Hid (subN (ts.drop j) (ms.drop i) = true) ∧ Hid (Below W6.heap.size W6 wr)) (fun _ y _ => ms.length - (intOf y).toNat)
    case atStart => exact ⟨0, 0, by omega, by omega, rfl, rfl, Lib.hid HSUB.out, Lib.hid (Below.refl _ _)⟩
    case round =>
      obtain ⟨i, j, hi, hj, rfl, rfl, HS, HB⟩ := hrel
      by_cases hlt : i < ms.length
      · obtain ⟨ee, hee⟩ : ∃ e, ms[i]? = some e := ⟨_, List.getElem?_eq_getElem hlt⟩
        obtain ⟨mg, mf, rfl, hmg, x0, _, x2, _, _⟩ := HMC.out i ee hee
        have X0 := Lib.hid x0
        have X2 := Lib.hid x2
        have HEE := Lib.hid hee
        obtain ⟨wo, hwo⟩ : ∃ wo : World, wo = wr := ⟨_, rfl⟩
        subst hwo
        have k1 : (i : Int) < (ms.length : Int) := by omega
        clear x0 x2 hee
        go_wp2_with fail
        go_loopw [13] (fun y13 wi => ∃ (j : Nat), j ≤ ts.length ∧ y13 = .int .i64 j ∧ Hid (subN (ts.drop j) (ms.drop i) = true) ∧ Hid (Below W6.heap.size W6 wi)) (fun y _ => ts.length - (intOf y).toNat)
        case atStart => exact ⟨j, hj, rfl, HS, HB⟩
        case round =>
          clear HS HB hj
          obtain ⟨j, hj, rfl, HS, HB⟩ := hrel
          by_cases hjl : j < ts.length
          · obtain ⟨t, htt⟩ : ∃ t, ts[j]? = some t := ⟨_, List.getElem?_eq_getElem hjl⟩
            have hst := HS.out
            rw [subN_drop htt HEE.out] at hst
            obtain ⟨tg, tf, rfl, htg, y0, _, y2, _, _⟩ := HTC.out j t htt
            have b6 := B6.out.trans (HB.out.mono B6.out.size)
            have m0 := (HB.out.cell (p := ⟨mg, mf + i * 5, none⟩) hmg).trans X0.out
            have m2 := (HB.out.cell (p := ⟨mg, mf + i * 5 + 2, none⟩) hmg).trans X2.out
            have n0 := (b6.cell (p := ⟨tg, tf + j * 5, none⟩) htg).trans y0
            have n2 := (b6.cell (p := ⟨tg, tf + j * 5 + 2, none⟩) htg).trans y2
            have j1 : (j : Int) < (ts.length : Int) := by omega
            have d1 : decide ((j : Int) < (ts.length : Int)) = true := decide_eq_true j1
            have HST := Lib.hid hst
            clear htt hst y0 y2 b6
            cases k1 : (t.kind == ee.kind)
            · have k2 : (t.kind != ee.kind) = true := by simp [bne, k1]
              have h1 := HST.out
              rw [k1] at h1
              simp only [Bool.false_and, Bool.false_eq_true, if_false, Bool.and_eq_true] at h1
              obtain ⟨h1, h2⟩ := h1
              have h3 : (t.kind != 1) = false := by simp [bne, h1]
              have HN := Lib.hid h2
              clear h2
              go_wp2_with fail
              go_quiet (fail)
              go_wp2_with fail
              go_roundw
              case rel => exact ⟨j + 1, by omega, by go_num, HN, Lib.hid (below_drewN HB.out _)⟩
              case measure => simp [intOf]; omega
            · have k2 : (t.kind != ee.kind) = false := by simp [bne, k1]
              cases k3 : (t.text.toList == ee.text.toList)
              · have h1 := HST.out
                rw [k1, k3] at h1
                simp only [Bool.and_false, Bool.false_eq_true, if_false, Bool.and_eq_true] at h1
                obtain ⟨h1, h2⟩ := h1
                have h3 : (t.kind != 1) = false := by simp [bne, h1]
                have HN := Lib.hid h2
                clear h2
                go_wp2_with fail
                go_quiet (fail)
                go_wp2_with fail
                go_roundw
                case rel => exact ⟨j + 1, by omega, by go_num, HN, Lib.hid (below_drewN HB.out _)⟩
                case measure => simp [intOf]; omega
              · have h1 := HST.out
                rw [k1, k3] at h1
                simp only [Bool.and_self, if_true] at h1
                have HN := Lib.hid h1
                clear h1
                go_wp2_with fail
                go_quiet (fail)
                go_wp2_with fail
                go_roundw
                case rel => exact ⟨i + 1, j + 1, by omega, by omega, by go_num, by go_num, HN, Lib.hid (below_drewN HB.out _)⟩
                case measure => simp [intOf]; omega
          · obtain rfl : j = ts.length := by omega
            have hst := HS.out
            obtain ⟨b1, b2⟩ := List.getElem?_eq_some_iff.1 HEE.out
            rw [List.drop_of_length_le (Nat.le_refl _), List.drop_eq_getElem_cons b1] at hst
            cases hst
      · obtain rfl : i = ms.length := by omega
        have B7 := Lib.hid (B6.out.trans (HB.out.mono B6.out.size))
        have j1 : (j : Int) ≤ (ts.length : Int) := by omega
        go_wp2_with fail
        go_ret
        exact ⟨rfl, B7.out⟩
end Go.Proofs.YtopbmndjnjnmcaaGreatDoor
