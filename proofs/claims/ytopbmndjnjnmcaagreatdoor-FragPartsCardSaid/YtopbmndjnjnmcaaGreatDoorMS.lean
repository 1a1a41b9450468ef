/- Package fragment: texts P6, P7, OF, S1, S2, S3, S4, in one. -/
import Derived.Test.YtopbmndjnjnmcaaGreatDoorMB
import Derived.Test.YtopbmndjnjnmcaaGreatDoorMC
import Derived.Test.YtopbmndjnjnmcaaGreatDoorOpen
import Derived.Test.YtopbmndjnjnmcaaGreatDoorMA
import Derived.BigRegion
import Derived.Laws.StructEq
import Derived.Test.YtopbmndjnjnmcaaGreatDoorMD
/- (P6) -/
/- Package fragment: what Same, Flat and Check answer, as functions on lists; a further word that stands nowhere changes nothing. -/
namespace Go.Proofs.YtopbmndjnjnmcaaGreatDoor
open Go.RowKit Lx Go.Sort

/-- Whether two tokens are equal; loose: offsets and marks do not matter. -/
def alikeT (loose : Bool) (x y : Tok) : Bool := (x.kind == y.kind) && ((x.num == y.num) && ((x.text.toList == y.text.toList) && (loose || ((x.at_ == y.at_) && (x.mark == y.mark)))))
/-- Whether two lists of fragments are equal. -/
def alikeF (loose : Bool) : List Fr → List Fr → Bool
  | [], [] => true
  | .mk t o ks :: r, .mk t2 o2 ks2 :: r2 => alikeT loose t t2 && ((o.toList == o2.toList) && (alikeF loose ks ks2 && alikeF loose r r2))
  | _, _ => false
theorem alikeF_cons (loose : Bool) (f g : Fr) (r r2 : List Fr) : alikeF loose (f :: r) (g :: r2) = (alikeT loose f.tok g.tok && ((f.op.toList == g.op.toList) && (alikeF loose f.kids g.kids && alikeF loose r r2))) := by
  cases f; cases g; rw [alikeF]; rfl
theorem alikeF_len (loose : Bool) : ∀ (l l2 : List Fr), l.length ≠ l2.length → alikeF loose l l2 = false
  | [], [], h => absurd rfl h
  | [], g :: r2, _ => by cases g; simp [alikeF]
  | f :: r, [], _ => by cases f; simp [alikeF]
  | f :: r, g :: r2, h => by
    rw [alikeF_cons, alikeF_len loose r r2 (by simpa using h)]
    simp
theorem alikeF_drop (loose : Bool) {l l2 : List Fr} {k : Nat} {f g : Fr} (h : l[k]? = some f) (h2 : l2[k]? = some g) : alikeF loose (l.drop k) (l2.drop k) = (alikeT loose f.tok g.tok && ((f.op.toList == g.op.toList) && (alikeF loose f.kids g.kids && alikeF loose (l.drop (k + 1)) (l2.drop (k + 1))))) := by
  obtain ⟨a1, a2⟩ := List.getElem?_eq_some_iff.1 h
  obtain ⟨b1, b2⟩ := List.getElem?_eq_some_iff.1 h2
  rw [List.drop_eq_getElem_cons a1, List.drop_eq_getElem_cons b1, a2, b2, alikeF_cons]

def sameP (l l2 : List Fr) : Bool := decide (depthP l ≤ 100) && alikeF true l l2
def fitsP (l : List Fr) : Bool := decide (depthP l ≤ 100) && decide (sizeP l ≤ 6000)
def flatP (l : List Fr) : List Tok := if fitsP l = true then toksP 1 l else []
/-- What Check answers. -/
def checkP (l : List Fr) (ws : List ByteArray) : Nat :=
  if okWords ws = false then 1 else if 100 < depthP l then 6 else if 6000 < sizeP l then 2 else
    match pRead (flatP l) ws with
    | .ok l2 => if sameP l2 l = true then 0 else 22
    | .bad _ _ => 22
/-- What a readable list is. -/
theorem checkP_ok {l : List Fr} {ws : List ByteArray} : checkP l ws = 0 ↔ okWords ws = true ∧ depthP l ≤ 100 ∧ sizeP l ≤ 6000 ∧ flatP l = toksP 1 l ∧ ∃ l2, pRead (toksP 1 l) ws = .ok l2 ∧ sameP l2 l = true := by
  unfold checkP
  cases h1 : okWords ws with
  | false => simp
  | true =>
    rw [if_neg (by simp)]
    by_cases h2 : 100 < depthP l
    · rw [if_pos h2]
      refine ⟨fun h => by simp at h, fun h => ?_⟩
      have := h.2.1; omega
    · rw [if_neg h2]
      by_cases h3 : 6000 < sizeP l
      · rw [if_pos h3]
        refine ⟨fun h => by simp at h, fun h => ?_⟩
        have := h.2.2.1; omega
      · rw [if_neg h3]
        have hf : flatP l = toksP 1 l := by
          unfold flatP fitsP
          rw [if_pos (by simp; omega)]
        rw [hf]
        cases h4 : pRead (toksP 1 l) ws with
        | bad e i =>
          refine ⟨fun h => by simp at h, fun h => ?_⟩
          obtain ⟨_, _, _, _, l2, h, _⟩ := h; cases h
        | ok l2 =>
          simp only
          cases h5 : sameP l2 l with
          | true => exact ⟨fun _ => ⟨trivial, by omega, by omega, trivial, l2, rfl, h5⟩, fun _ => rfl⟩
          | false =>
            refine ⟨fun h => by simp at h, fun h => ?_⟩
            obtain ⟨_, _, _, _, l3, h6, h7⟩ := h; cases h6; rw [h5] at h7; cases h7

section
variable {ts : List Tok} {ws : List ByteArray} {x : ByteArray}
theorem clo_more {s : List UInt8} (h : s ≠ x.toList) : clo (ws ++ [x]) s = clo ws s := by
  have hx : (x.toList == s) = false := by
    cases e : (x.toList == s)
    · rfl
    · exact absurd (eq_of_beq e).symm h
  unfold clo
  rw [List.any_append, List.any_cons, List.any_nil, hx, Bool.or_false, Bool.or_false]
/-- No open group has this opening. -/
def NoOp (x : ByteArray) (s : Rst) : Prop := ∀ g ∈ s.g :: s.stk, g.op.toList ≠ x.toList
theorem NoOp.same {s s' : Rst} (h : NoOp x s) (h1 : s'.g = s.g) (h2 : s'.stk = s.stk) : NoOp x s' := by unfold NoOp; rw [h1, h2]; exact h
theorem pEnd_noop {s s' : Rst} (h : pEnd ts s = .ok s') (hs : NoOp x s) : NoOp x s' := by
  unfold pEnd at h
  split at h
  · rename_i g2 rest t hk ht
    split at h
    · cases h
    · cases h
      unfold NoOp at hs ⊢
      rw [hk] at hs
      intro g hg
      rcases List.mem_cons.1 hg with rfl | hg
      · exact hs g2 (List.mem_cons_of_mem _ List.mem_cons_self)
      · exact hs g (List.mem_cons_of_mem _ (List.mem_cons_of_mem _ hg))
  · cases h
theorem pTake_noop {s s' : Rst} (ht : ∀ t ∈ ts, t.text.toList ≠ x.toList) (h : pTake ts ws s = .ok s') (hs : NoOp x s) : NoOp x s' := by
  unfold pTake at h
  split at h
  · cases h
  · rename_i t htt
    have hmem := List.mem_of_getElem? htt
    split at h
    · split at h
      · cases h
      · exact pEnd_noop h hs
      · unfold pNamed at h
        split at h
        · cases h
        · rename_i s1 he
          have h1 := pEnd_noop he hs
          split at h
          · obtain ⟨a, b, _⟩ := pDrop_same h; exact h1.same a b
          · cases h; exact h1
    · split at h
      · split at h
        · cases h
        · cases h
          intro g hg
          rcases List.mem_cons.1 hg with rfl | hg
          · exact ht t hmem
          · exact hs g hg
      · cases h
        intro g hg
        rcases List.mem_cons.1 hg with rfl | hg
        · exact hs s.g List.mem_cons_self
        · exact hs g (List.mem_cons_of_mem _ hg)
theorem pTake_more {s : Rst} (ht : ∀ t ∈ ts, t.text.toList ≠ x.toList) (hs : NoOp x s) : pTake ts (ws ++ [x]) s = pTake ts ws s := by
  unfold pTake
  cases h : ts[s.at_]? with
  | none => rfl
  | some t =>
    have hmem := List.mem_of_getElem? h
    have e : pOpens ts (ws ++ [x]) s t = pOpens ts ws s t := by unfold pOpens; rw [clo_more (ht t hmem)]
    simp only [e, clo_more (hs s.g List.mem_cons_self)]
theorem pGo_more (ht : ∀ t ∈ ts, t.text.toList ≠ x.toList) : ∀ (n : Nat) (s : Rst), NoOp x s → pGo ts (ws ++ [x]) n s = pGo ts ws n s
  | 0, _, _ => rfl
  | n + 1, s, hs => by
    simp only [pGo]
    rw [pTake_more ht hs]
    split
    · split
      · cases h : pTake ts ws s with
        | bad e i => rfl
        | ok s' => exact pGo_more ht n _ ((pTake_noop ht h hs).same rfl rfl)
      · rfl
    · rfl
/-- **A FURTHER WORD THAT STANDS NOWHERE CHANGES NOTHING.** -/
theorem check_more {l : List Fr} (hw : okWords (ws ++ [x]) = true) (hx : x.toList ≠ []) (h : checkP l ws = 0) (ht : ∀ t ∈ flatP l, t.text.toList ≠ x.toList) : checkP l (ws ++ [x]) = 0 := by
  obtain ⟨h1, h2, h3, h4, l2, h5, h6⟩ := checkP_ok.1 h
  refine checkP_ok.2 ⟨hw, h2, h3, h4, l2, ?_, h6⟩
  rw [h4] at ht
  rw [← h5]
  unfold pRead
  rw [hw, h1]
  simp only [Bool.true_eq_false, if_false]
  split
  · rfl
  · unfold pRead0
    rw [pGo_more ht _ st0 (fun g hg => by
      rcases List.mem_cons.1 hg with rfl | hg
      · exact fun h => hx (h.symm.trans (show (⟨#[]⟩ : ByteArray).toList = [] from by decide +kernel))
      · cases hg)]
end
end Go.Proofs.YtopbmndjnjnmcaaGreatDoor

/- (P7) -/
/- The pure reader's errors have numbers; what Check answers, by what Read gives. -/
namespace Go.Proofs.YtopbmndjnjnmcaaGreatDoor
open Go.RowKit Lx

section
variable {ts : List Tok} {ws : List ByteArray} {e : Nat} {i : Int}
theorem pDrop_ne : ∀ {names : List ByteArray} {s : Rst}, nextAre ts s.at_ names = true → pDrop ts names.length s = .bad e i → e ≠ 0
  | [], _, _, h => by cases h
  | nm :: r, s, hn, h => by
    simp only [nextAre, Bool.and_eq_true] at hn
    obtain ⟨h1, h2⟩ := hn
    simp only [List.length_cons, pDrop] at h
    cases ht : ts[s.at_ + 1]? with
    | none => rw [ht] at h1; cases h1
    | some t =>
      rw [ht] at h
      simp only at h
      split at h
      · exact pDrop_ne (s := { s with at_ := s.at_ + 1 }) h2 h
      · cases h; decide
theorem pEnd_ne {s : Rst} (hlt : s.at_ < ts.length) (hs : s.stk ≠ []) (h : pEnd ts s = .bad e i) : e ≠ 0 := by
  unfold pEnd at h
  rw [List.getElem?_eq_getElem hlt] at h
  cases hk : s.stk with
  | nil => exact absurd hk hs
  | cons g2 rest =>
    rw [hk] at h
    simp only at h
    split at h
    · cases h; decide
    · cases h
theorem pTake_ne {s : Rst} (hlt : s.at_ < ts.length) (hO : Ops s) (hc : clo ws [] = none) (h : pTake ts ws s = .bad e i) : e ≠ 0 := by
  have hst : clo ws s.g.op.toList ≠ none → s.stk ≠ [] := fun h1 h2 => h1 (by rw [hO.base h2, (by decide +kernel : (⟨#[]⟩ : ByteArray).toList = [])]; exact hc)
  unfold pTake at h
  rw [List.getElem?_eq_getElem hlt] at h
  simp only at h
  split at h
  · split at h
    · cases h; decide
    · rename_i hcl
      exact pEnd_ne hlt (hst (by rw [hcl]; simp)) h
    · rename_i hcl
      unfold pNamed at h
      split at h
      · rename_i he
        cases h
        exact pEnd_ne hlt (hst (by rw [hcl]; simp)) he
      · rename_i s1 he
        split at h
        · rename_i names hf
          have := List.find?_some hf
          simp only [Bool.and_eq_true] at this
          exact pDrop_ne (s := s1) (by rw [pEnd_ok he]; exact this.1) h
        · cases h
  · split at h
    · split at h
      · cases h; decide
      · cases h
    · cases h
theorem pGo_ne (hc : clo ws [] = none) (hz : ∀ t ∈ ts, t.text.size ≤ maxLen) : ∀ {n : Nat} {s : Rst}, Ops s → pGo ts ws n s = .bad e i → e ≠ 0
  | 0, _, _, h => by cases h
  | n + 1, s, hO, h => by
    simp only [pGo] at h
    split at h
    · rename_i hlt
      split at h
      · split at h
        · rename_i hp
          cases h
          exact pTake_ne hlt hO hc hp
        · rename_i s' hp
          exact pGo_ne hc hz (s := { s' with at_ := s'.at_ + 1 }) ((pTake_ops hp hO hz).at rfl rfl) h
      · cases h; decide
    · cases h
theorem pRead_ne (hz : ∀ t ∈ ts, t.text.size ≤ maxLen) (h : pRead ts ws = .bad e i) : e ≠ 0 := by
  unfold pRead at h
  split at h
  · cases h; decide
  · rename_i hw
    split at h
    · cases h; decide
    · unfold pRead0 at h
      split at h
      · rename_i hg
        cases h
        exact pGo_ne (clo_nil (by simpa using hw)) hz st0_ops hg
      · split at h
        · cases h
        · cases h; decide
end
end Go.Proofs.YtopbmndjnjnmcaaGreatDoor

/- (OF) -/
/- Arguments that are slices of fragments, opened. -/
namespace Go.Proofs.YtopbmndjnjnmcaaGreatDoor
open Go.ChangeShapes Go.WideShapes Go.ChangeAt Go.RowKit Lx

theorem c52 : Tryz.prog.cellsOf 52 = 7 := by kernel_rfl
theorem c9 : Tryz.prog.cellsOf 9 = 1 := by kernel_rfl
theorem c25 : Tryz.prog.cellsOf 25 = 1 := by kernel_rfl
theorem b52 : Tryz.prog.bytesOf 52 = 88 := by kernel_rfl

instance : Inhabited Fr := ⟨.mk default ByteArray.empty []⟩

/-- All texts in fragments. -/
def txts : List Fr → List ByteArray
  | [] => []
  | .mk t op ks :: r => t.text :: op :: (txts ks ++ txts r)
def TxtOk (l : List Fr) : Prop := ∀ s ∈ txts l, s.size ≤ maxLen
theorem txts_cons (f : Fr) (r : List Fr) : txts (f :: r) = f.tok.text :: f.op :: (txts f.kids ++ txts r) := by cases f; rw [txts]; rfl
theorem TxtOk.nil : TxtOk [] := fun s h => by simp [txts] at h
theorem txtOk_cons {f : Fr} {r : List Fr} : TxtOk (f :: r) ↔ f.tok.text.size ≤ maxLen ∧ f.op.size ≤ maxLen ∧ TxtOk f.kids ∧ TxtOk r := by
  unfold TxtOk
  rw [txts_cons]
  simp only [List.mem_cons, List.mem_append]
  constructor
  · intro h
    exact ⟨h _ (.inl rfl), h _ (.inr (.inl rfl)), fun s hs => h s (.inr (.inr (.inl hs))), fun s hs => h s (.inr (.inr (.inr hs)))⟩
  · rintro ⟨h1, h2, h3, h4⟩ s (rfl | rfl | hs | hs)
    · exact h1
    · exact h2
    · exact h3 s hs
    · exact h4 s hs
theorem txtOk_of : ∀ {l : List Fr}, (∀ f ∈ l, f.tok.text.size ≤ maxLen ∧ f.op.size ≤ maxLen ∧ TxtOk f.kids) → TxtOk l
  | [], _ => .nil
  | f :: _, h => txtOk_cons.2 ⟨(h f List.mem_cons_self).1, (h f List.mem_cons_self).2.1, (h f List.mem_cons_self).2.2, txtOk_of fun g hg => h g (List.mem_cons_of_mem _ hg)⟩
theorem closeTok_size (t : Tok) (op : ByteArray) : (closeTok t op).text.size ≤ maxLen := by
  unfold closeTok
  split
  · exact (by decide : (bs1 41).size ≤ maxLen)
  · split
    · exact (by decide : (bs1 93).size ≤ maxLen)
    · split
      · exact (by decide : (bs1 125).size ≤ maxLen)
      · exact (by decide : tEnd.size ≤ maxLen)
theorem fsz_cons (f : Fr) (r : List Fr) : fsz (f :: r) = 1 + fsz f.kids + fsz r := by cases f; rw [fsz]; rfl
theorem toksP_txt : ∀ (n d : Nat) (l : List Fr), fsz l < n → TxtOk l → ∀ t ∈ toksP d l, t.text.size ≤ maxLen
  | 0, _, _, h, _, _, _ => absurd h (Nat.not_lt_zero _)
  | n + 1, d, [], _, _, t, ht => by simp [toksP] at ht
  | n + 1, d, f :: r, hn, h, t, ht => by
    obtain ⟨h1, h2, h3, h4⟩ := txtOk_cons.1 h
    rw [fsz_cons] at hn
    rw [toksP_cons] at ht
    unfold tokF at ht
    rcases List.mem_append.1 ht with ht | ht
    · by_cases ho : f.op.toList = []
      · rw [if_pos ho] at ht
        obtain rfl := List.mem_singleton.1 ht; exact h1
      · rw [if_neg ho] at ht
        by_cases hd : d ≤ 100
        · rw [if_pos hd] at ht
          rcases List.mem_cons.1 ht with rfl | ht
          · exact h1
          · rcases List.mem_append.1 ht with ht | ht
            · exact toksP_txt n (d + 1) f.kids (by omega) h3 t ht
            · obtain rfl := List.mem_singleton.1 ht; exact closeTok_size _ _
        · rw [if_neg hd] at ht
          cases ht
    · exact toksP_txt n d r (by omega) h4 t ht

/-- Fragments that lie in memory, by what is at each index. -/
theorem FrAt.of {W : World} {g : Nat} (hg : g < W.heap.size) : ∀ {l : List Fr} {o : Nat}, (∀ k f, l[k]? = some f → ∃ kv, (∀ j, j < 7 → W.cell? ⟨g, o + k * 7 + j, none⟩ = (frC f.tok f.op kv)[j]?) ∧ FrRead W (fun _ => True) kv f.kids) → FrAt W (fun _ => True) g o l
  | [], _, _ => .nil _ _
  | .mk t op ks :: l, o, h => by
    obtain ⟨kv, hc, a, c, g', o', hv, hm, ha, hr⟩ := h 0 _ rfl
    simp only [Fr.kids] at hv hm ha hr
    subst hv
    simp only [Nat.zero_mul, Nat.add_zero, Fr.tok, Fr.op] at hc
    refine .cons trivial hg (hc 0 (by omega)) (hc 1 (by omega)) (hc 2 (by omega)) (hc 3 (by omega)) (hc 4 (by omega)) (hc 5 (by omega)) (hc 6 (by omega)) hm ha hr (FrAt.of hg fun k f hk => ?_)
    obtain ⟨kv, h1, h2⟩ := h (k + 1) f (by simpa using hk)
    exact ⟨kv, fun j hj => by rw [show o + 7 + k * 7 + j = o + (k + 1) * 7 + j by omega]; exact h1 j hj, h2⟩

variable {H : Type} {enc : TypeId × Value → H}

set_option maxRecDepth 100000 in
/-- A slice of fragments, by its fuel. -/
theorem open_frs {W : World} : ∀ (fuel : Nat) (cs : List Value) (x : DataW H × List MemPlace), DataW.trod enc Tryz.prog W 0 (fun _ => true) true fuel 25 cs = some x →
    ∃ (a : Option Addr) (len cap : Nat) (l : List Fr), cs = [.slice a len cap] ∧ FrRead W (fun _ => True) (.slice a len cap) l ∧ TxtOk l ∧ (a = none → cap = 0) ∧ ((x.1 = .nil ∧ l = []) ∨ ∃ elems spare, x.1 = .slice elems spare ∧ elems.length = l.length) := by
  intro fuel
  induction fuel using Nat.strongRecOn with
  | ind fuel ih =>
    intro cs x h
    rcases DataW.trod_slice Tryz.underlying25 h with ⟨rfl, rfl⟩ | ⟨a, len, cap, elems, rest, n, rfl, rfl, rfl, _, hl, hm, hel, hx, _, _⟩
    · exact ⟨none, 0, 0, [], rfl, .nil _ _ _ _, .nil, fun _ => rfl, .inl ⟨rfl, rfl⟩⟩
    · rw [c52] at hx
      obtain ⟨T, hT⟩ := Go.Deep.choose_lt (α := Fr) (n := len) (p := fun i f => (∃ kv, W.cells? 0 (a.add (i * 7)) 7 = some (frC f.tok f.op kv) ∧ FrRead W (fun _ => True) kv f.kids) ∧ f.tok.text.size ≤ maxLen ∧ f.op.size ≤ maxLen ∧ TxtOk f.kids) (fun i hi => by
        have h1 := hx i hi
        rw [List.getElem?_eq_getElem (by omega)] at h1
        obtain ⟨cs', h2, h3⟩ := Option.bind_eq_some_iff.1 h1
        obtain ⟨_, hlen, _⟩ := World.cells?_some h2
        obtain ⟨xs, k, rfl, _, _, hxl, hf⟩ := DataW.trod_struct Tryz.underlying52 h3
        match cs', hlen, xs, hxl with
        | [v0, v1, v2, v3, v4, v5, v6], _, [y0, y1, y2], _ =>
          have e0 := hf 0 _ rfl
          have e1 := hf 1 _ rfl
          have e2 := hf 2 _ rfl
          simp [c50, c25, cells9] at e0 e1 e2
          obtain ⟨t, ht, htz⟩ := open_tok (by rfl) e0
          obtain ⟨op, hop, _, hoz⟩ := DataW.trod_string Tryz.underlying9 e1
          obtain ⟨ka, kn, kc, ks, hks, hkr, hkt, _, _⟩ := ih k (by omega) _ _ e2
          simp only [tokC, List.cons.injEq, and_true] at ht hop hks
          obtain ⟨rfl, rfl, rfl, rfl, rfl⟩ := ht
          subst hop hks
          exact ⟨.mk t op ks, ⟨_, h2, hkr⟩, htz, hoz, hkt⟩)
      have hlt : ((List.range len).map T).length = len := by simp
      refine ⟨some a, len, cap, (List.range len).map T, rfl, ?_, txtOk_of fun f hf => ?_, (fun h => by cases h), .inr ⟨_, _, rfl, by simp [hel]⟩⟩
      · rcases Nat.eq_zero_or_pos len with rfl | hpos
        · exact ⟨some a, cap, 0, 0, rfl, ⟨Nat.zero_le _, Nat.zero_le _⟩, fun h => absurd rfl h, .nil _ _⟩
        · obtain ⟨⟨kv0, h0, _⟩, _⟩ := hT 0 hpos
          obtain ⟨_, _, hc0⟩ := World.cells?_some h0
          have z0 := hc0 0 (by omega)
          rw [Go.Deep.add_add] at z0
          have z1 := block_of_cell (z0.trans rfl)
          have hadd := fun i => cell_add (z0.trans rfl) i
          obtain ⟨ea, _⟩ := hadd 0
          refine ⟨some a, cap, a.block, a.off, by rw [hlt], ⟨by rw [hlt]; omega, by rw [hlt]; exact hl⟩, fun _ => congrArg some ea, FrAt.of (by rw [ea] at z1; simpa [Addr.add] using z1) fun k f hk => ?_⟩
          obtain ⟨hi, he⟩ := List.getElem?_eq_some_iff.1 hk
          have hkl : k < len := by simpa using hi
          have ht : T k = f := by simpa using he
          subst ht
          obtain ⟨⟨kv, h1, h2⟩, _⟩ := hT k hkl
          obtain ⟨_, _, hc⟩ := World.cells?_some h1
          refine ⟨kv, fun j hj => ?_, h2⟩
          have := hc j hj
          rw [Go.Deep.add_add, (hadd _).2] at this
          rw [Nat.add_assoc]; exact this
      · obtain ⟨i, hi, rfl⟩ := List.mem_map.1 hf
        exact (hT i (List.mem_range.1 hi)).2

set_option maxRecDepth 100000 in
/-- A slice of fragments. -/
theorem open_frags {W : World} {v : Value} {base : Nat} {d : DataW H} {p : List MemPlace} (hv : Value.okWide Tryz.prog W .any base 25 v) (h : DataW.Trod enc Tryz.prog W 0 (fun _ => true) true 25 v d p) :
    ∃ l : List Fr, FrRead W (fun _ => True) v l ∧ TxtOk l ∧ (∀ n c, v = .slice none n c → c = 0) ∧ ((d = .nil ∧ l = []) ∨ ∃ elems spare, d = .slice elems spare ∧ elems.length = l.length) := by
  obtain ⟨a0, len, cap, rfl⟩ := okWide_slice Tryz.underlying25 hv
  obtain ⟨fuel, hf⟩ := h
  obtain ⟨a, n, c, l, hcs, hr, ht, hz, hd⟩ := open_frs fuel _ _ hf
  simp [Value.cells] at hcs
  obtain ⟨rfl, rfl, rfl⟩ := hcs
  exact ⟨l, hr, ht, fun n c h => by cases h; exact hz rfl, hd⟩
end Go.Proofs.YtopbmndjnjnmcaaGreatDoor

/- (S1) -/
/- Package fragment: same. -/
namespace Go.Proofs.YtopbmndjnjnmcaaGreatDoor
open Go.RowKit Lx Go.Sort

attribute [local go_sem] Oper.semAt_some
/-- Whether two tokens are equal but for offsets and marks. -/
def tokSame (k n : Int) (x : ByteArray) (k' n' : Int) (x' : ByteArray) : Bool := (k == k') && ((n == n') && (x.toList == x'.toList))
theorem tokSame_alike (t t' : Tok) : tokSame t.kind t.num t.text t'.kind t'.num t'.text = alikeT true t t' := by
  unfold tokSame alikeT
  simp
theorem guard50s : Tryz.prog.eqGuardType Tryz.prog.depth 50 = false := by kernel_rfl
theorem held50s : Tryz.prog.stoodInHeld 50 = false := by kernel_rfl
theorem fields50s : Tryz.prog.underlying 50 = some (.struct (Tryz.prog.fieldsOf 50)) := by kernel_rfl
theorem tks_guard (op : BinOp) (x y : Operand) (xs ys : Array Value) (w : World) : (eqGuard op 50 x y (.agg xs) (.agg ys)).run Tryz.prog w = .ok () w := run_eqGuard_agg w op 50 x y xs ys guard50s
theorem tks_eql (w : World) (k n k' n' a m : Int) (x x' : ByteArray) : (Go.binOp .eql 50 (.agg #[.int .i64 k, .int .i64 n, .string x, .int .i64 a, .int .i64 m]) (.agg #[.int .i64 k', .int .i64 n', .string x', .int .i64 a, .int .i64 m])).run Tryz.prog w = .ok (.bool (tokSame k n x k' n' x')) w := by
  rw [run_eql_struct, run_equalIn_struct w 9999 50 _ _ fields50s held50s]
  unfold tokSame
  cases h1 : (k == k') <;> cases h2 : (n == n') <;> cases h3 : (x.toList == x'.toList) <;> simp [go_sem, h1, h2, h3]
attribute [local go_sem ↓] tks_eql tks_guard

set_option maxRecDepth 100000 in
set_option maxHeartbeats 4000000 in
/-- **same's function** -/
theorem same1_any (t t2 : Tok) (op op2 : ByteArray) (kv kv2 : Value) (res : Bool) (w : World)
    (hv : ∃ a n c, kv = .slice a n c) (hv2 : ∃ a n c, kv2 = .slice a n c)
    (ih : ∀ W, Below w.heap.size w W → Calls Tryz.prog 62 #[kv, kv2] W fun e W' => e = .returned (.bool res) ∧ Below W.heap.size W W') :
    Calls Tryz.prog 93 #[.agg (frC t op kv).toArray, .agg (frC t2 op2 kv2).toArray] w fun e W => e = .returned (.bool (alikeT true t t2 && ((op.toList == op2.toList) && res))) ∧ Below w.heap.size w W := by
  have IH := Lib.hid ih
  clear ih
  obtain ⟨va, vn, vc, rfl⟩ := hv
  obtain ⟨ua, un, uc, rfl⟩ := hv2
  rw [← tokSame_alike]
  unfold frC
  obtain ⟨b, hb⟩ : ∃ b, tokSame t.kind t.num t.text t2.kind t2.num t2.text = b := ⟨_, rfl⟩
  rw [hb]
  have HBL := Lib.hid ((((Below.refl w.heap.size w).alloc (Nat.le_refl _) (.cells #[.int .i64 t.kind, .int .i64 t.num, .string t.text, .int .i64 t2.at_, .int .i64 t2.mark, .string op, .slice va vn vc] 52)).alloc (by rw [World.size_alloc]; omega) (.cells #[.int .i64 t2.kind, .int .i64 t2.num, .string t2.text, .int .i64 t2.at_, .int .i64 t2.mark, .string op2, .slice ua un uc] 52)).drew)
  cases e1 : (op.toList == op2.toList)
  · go_enter Tryz.func93, Tryz.ntmps93
    go_wp2_with fail
    go_region
    go_wp2_with fail
    go_ret
    exact ⟨by cases b <;> rfl, HBL.out⟩
  · cases b
    · go_enter Tryz.func93, Tryz.ntmps93
      go_wp2_with fail
      go_region
      go_wp2_with fail
      go_ret
      exact ⟨rfl, HBL.out⟩
    · go_enter Tryz.func93, Tryz.ntmps93
      go_wp2_with fail
      go_region
      go_wp2_with fail
      go_at_call 62
      refine (IH.out _ HBL.out).mono ?_
      rintro e W5 ⟨rfl, hb5⟩
      have B5 := Lib.hid (HBL.out.trans (hb5.mono HBL.out.size))
      clear hb5
      go_wp2_with fail
      go_ret
      exact ⟨rfl, B5.out⟩

set_option maxRecDepth 100000 in
set_option maxHeartbeats 8000000 in
/-- **slices.EqualFunc** of fragments, by same's function -/
theorem eqf_any (S S2 : Nat → Prop) (l l2 : List Fr) (v v2 : Value) (w : World) (hr : FrRead w S v l) (hr2 : FrRead w S2 v2 l2)
    (ih : ∀ (k : Nat) (f g : Fr) (kv kv2 : Value) (W : World), l[k]? = some f → l2[k]? = some g → FrRead W S kv f.kids → FrRead W S2 kv2 g.kids → Calls Tryz.prog 62 #[kv, kv2] W fun e W' => e = .returned (.bool (alikeF true f.kids g.kids)) ∧ Below W.heap.size W W') :
    Calls Tryz.prog 92 #[v, v2, .func (.func 93) #[] #[]] w fun e W => e = .returned (.bool (alikeF true l l2)) ∧ Below w.heap.size w W := by
  have IH := Lib.hid ih
  obtain ⟨va, vc, vg, vo, rfl, ⟨hm1, hm2⟩, ha, hat⟩ := hr
  obtain ⟨ua, uc, ug, uo, rfl, ⟨hu1, hu2⟩, hua, huat⟩ := hr2
  have HAT := Lib.hid hat
  have HA := Lib.hid ha
  have HUT := Lib.hid huat
  have HU := Lib.hid hua
  unfold maxLen at hm1 hu1
  obtain ⟨res, hres⟩ : ∃ res, alikeF true l l2 = res := ⟨_, rfl⟩
  rw [hres]
  have HRS := Lib.hid hres
  clear hat ha huat hua hres ih
  go_enter Tryz.func92, Tryz.ntmps92
  by_cases hlen : l.length = l2.length
  case neg =>
    have e1 : ((l.length : Int) == (l2.length : Int)) = false := by simp; omega
    have e2 : ((l.length : Int) != (l2.length : Int)) = true := by simp; omega
    obtain rfl : false = res := (alikeF_len true l l2 hlen).symm.trans HRS.out
    clear hlen
    go_wp2_with fail
    go_ret
    exact ⟨rfl, Below.refl _ _⟩
  rw [← hlen] at hu1 hu2 ⊢
  have HL := Lib.hid hlen
  clear hlen
  go_wp2_with fail
  go_loopw [17] (fun x wr => ∃ (k : Nat), k ≤ l.length ∧ x = .int .i64 k ∧ Hid (alikeF true (l.drop k) (l2.drop k) = res) ∧ Hid (Below w.heap.size w wr)) (fun x _ => l.length - (intOf x).toNat)
  case atStart => exact ⟨0, by omega, rfl, Lib.hid HRS.out, Lib.hid (Below.refl _ _)⟩
  case round =>
    obtain ⟨k, hk, rfl, HN, HB⟩ := hrel
    by_cases hlt : k < l.length
    · obtain ⟨f, hf⟩ : ∃ f, l[k]? = some f := ⟨_, List.getElem?_eq_getElem hlt⟩
      obtain ⟨g, hg2⟩ : ∃ g, l2[k]? = some g := ⟨_, List.getElem?_eq_getElem (by rw [← HL.out]; exact hlt)⟩
      have hva : va = some ⟨vg, vo, none⟩ := HA.out (by intro h; rw [h] at hlt; simp at hlt)
      have hua : ua = some ⟨ug, uo, none⟩ := HU.out (by intro h; rw [h] at hg2; simp at hg2)
      subst hva hua
      obtain ⟨kv, hs, hg, c0, c1, c2, c3, c4, c5, c6, hkr⟩ := HAT.out.get hf
      obtain ⟨kv2, hs2, hgu, d0, d1, d2, d3, d4, d5, d6, hkr2⟩ := HUT.out.get hg2
      have hst := HN.out
      rw [alikeF_drop true hf hg2] at hst
      have hb := HB.out
      have m0 := (hb.cell (p := ⟨vg, vo + k * 7, none⟩) hg).trans c0
      have m1 := (hb.cell (p := ⟨vg, vo + k * 7 + 1, none⟩) hg).trans c1
      have m2 := (hb.cell (p := ⟨vg, vo + k * 7 + 2, none⟩) hg).trans c2
      have m3 := (hb.cell (p := ⟨vg, vo + k * 7 + 3, none⟩) hg).trans c3
      have m4 := (hb.cell (p := ⟨vg, vo + k * 7 + 4, none⟩) hg).trans c4
      have m5 := (hb.cell (p := ⟨vg, vo + k * 7 + 5, none⟩) hg).trans c5
      have m6 := (hb.cell (p := ⟨vg, vo + k * 7 + 6, none⟩) hg).trans c6
      have h1 := (Below.refl wr.heap.size wr).alloc (Nat.le_refl _) (.cells #[.int .i64 f.tok.kind, .int .i64 f.tok.num, .string f.tok.text, .int .i64 f.tok.at_, .int .i64 f.tok.mark, .string f.op, kv] 52)
      have b1 := hb.trans (h1.mono hb.size)
      have n0 := (b1.cell (p := ⟨ug, uo + k * 7, none⟩) hgu).trans d0
      have n1 := (b1.cell (p := ⟨ug, uo + k * 7 + 1, none⟩) hgu).trans d1
      have n2 := (b1.cell (p := ⟨ug, uo + k * 7 + 2, none⟩) hgu).trans d2
      have n3 := (b1.cell (p := ⟨ug, uo + k * 7 + 3, none⟩) hgu).trans d3
      have n4 := (b1.cell (p := ⟨ug, uo + k * 7 + 4, none⟩) hgu).trans d4
      have n5 := (b1.cell (p := ⟨ug, uo + k * 7 + 5, none⟩) hgu).trans d5
      have n6 := (b1.cell (p := ⟨ug, uo + k * 7 + 6, none⟩) hgu).trans d6
      have h2 := (Below.refl _ (wr.alloc (.cells #[.int .i64 f.tok.kind, .int .i64 f.tok.num, .string f.tok.text, .int .i64 f.tok.at_, .int .i64 f.tok.mark, .string f.op, kv] 52))).alloc (Nat.le_refl _) (.cells #[.int .i64 g.tok.kind, .int .i64 g.tok.num, .string g.tok.text, .int .i64 g.tok.at_, .int .i64 g.tok.mark, .string g.op, kv2] 52)
      have b2 := b1.trans (h2.mono b1.size)
      have hkv : ∃ a n c, kv = .slice a n c := by obtain ⟨a, c, _, _, h, _⟩ := hkr; exact ⟨a, _, c, h⟩
      have hkv2 : ∃ a n c, kv2 = .slice a n c := by obtain ⟨a, c, _, _, h, _⟩ := hkr2; exact ⟨a, _, c, h⟩
      have hc := same1_any f.tok g.tok f.op g.op kv kv2 (alikeF true f.kids g.kids) _ hkv hkv2 (fun W hb => IH.out k f g kv kv2 W hf hg2 (hkr.bl (b2.trans (hb.mono b2.size))) (hkr2.bl (b2.trans (hb.mono b2.size))))
      unfold frC at hc
      have HC := Lib.hid hc
      have B2 := Lib.hid b2
      have k1 : (k : Int) < (l.length : Int) := by omega
      obtain ⟨one, hone⟩ : ∃ one, (alikeT true f.tok g.tok && ((f.op.toList == g.op.toList) && alikeF true f.kids g.kids)) = one := ⟨_, rfl⟩
      rw [hone] at HC
      have hst2 : (one && alikeF true (l.drop (k + 1)) (l2.drop (k + 1))) = res := by rw [← hst, ← hone]; simp only [Bool.and_assoc]
      have HST := Lib.hid hst2
      obtain ⟨va2, vn2, vc2, rfl⟩ := hkv
      obtain ⟨ua2, un2, uc2, rfl⟩ := hkv2
      clear c0 c1 c2 c3 c4 c5 c6 d0 d1 d2 d3 d4 d5 d6 hs hs2 hkr hkr2 h1 h2 hb b1 b2 hf hg2 hst hone hst2 hc
      go_wp2_with fail
      go_at_call 93
      refine HC.out.mono ?_
      rintro e W5 ⟨rfl, hb5⟩
      have B5 := Lib.hid (B2.out.trans (hb5.mono B2.out.size))
      clear hb5 m0 m1 m2 m3 m4 m5 m6 n0 n1 n2 n3 n4 n5 n6
      cases one
      · obtain rfl : false = res := HST.out
        go_wp2_with fail
        go_ret
        exact ⟨rfl, B5.out⟩
      · have HF : Hid (alikeF true (l.drop (k + 1)) (l2.drop (k + 1)) = res) := Lib.hid (by have := HST.out; rwa [Bool.true_and] at this)
        go_wp2_with fail
        go_roundw
        case rel => exact ⟨k + 1, by omega, rfl, HF, B5⟩
        case measure => simp [intOf]; omega
    · obtain rfl : k = l.length := by omega
      have hst := HN.out
      rw [List.drop_length, HL.out, List.drop_length, alikeF] at hst
      subst hst
      go_wp2_with fail
      go_ret
      exact ⟨rfl, HB.out⟩

set_option maxRecDepth 100000 in
/-- **same** -/
theorem same_any (S S2 : Nat → Prop) : ∀ (n : Nat) (l l2 : List Fr) (v v2 : Value) (w : World), fsz l < n → FrRead w S v l → FrRead w S2 v2 l2 →
    Calls Tryz.prog 62 #[v, v2] w fun e W => e = .returned (.bool (alikeF true l l2)) ∧ Below w.heap.size w W := by
  intro n
  induction n with
  | zero => intro l l2 v v2 w h; omega
  | succ n ih =>
    intro l l2 v v2 w hn hr hr2
    have hq := eqf_any S S2 l l2 v v2 w hr hr2 (fun k f g kv kv2 W hf hg h1 h2 => ih f.kids g.kids kv kv2 W (by have := fsz_kids hf; omega) h1 h2)
    have HQ := Lib.hid hq
    obtain ⟨a, c, _, _, rfl, _⟩ := hr
    obtain ⟨a2, c2, _, _, rfl, _⟩ := hr2
    clear hq ih
    go_enter Tryz.func62, Tryz.ntmps62
    go_wp2_with fail
    go_at_call 92
    refine HQ.out.mono ?_
    rintro e W5 ⟨rfl, hb5⟩
    go_wp2_with fail
    go_ret
    exact ⟨rfl, hb5⟩
end Go.Proofs.YtopbmndjnjnmcaaGreatDoor

/- (S2) -/
/- Package fragment: the range over tokens, where each round knows that what has come so far and its token begin the list. -/
namespace Go.Proofs.YtopbmndjnjnmcaaGreatDoor
open Go.RowKit Lx Go.Sort

attribute [local go_sem] Oper.semAt_some

set_option maxRecDepth 100000 in
set_option maxHeartbeats 8000000 in
/-- **pass**, where the round knows what is still to come -/
theorem pass2_any (lb : Nat) (tk : List Tok) (J X : List Tok → World → Prop) (w0 : World) (S : Nat → Prop) (hJ1 : ∀ pre W, J pre W → Below w0.heap.size w0 W) (hJ2 : ∀ pre W W', J pre W → Below W.heap.size W W' → J pre W')
    (hY : ∀ pre t W, (∃ r, tk = pre ++ t :: r) → J pre W → YieldAt Fence.wide 0 Tryz.prog lb #[TokV t] W fun e W' => ((e = .returned (.bool true) ∧ J (pre ++ [t]) W') ∨ (e = .returned (.bool false) ∧ X (pre ++ [t]) W')) ∧ Keep52 W W') :
    ∀ (n : Nat) (l : List Fr) (d : Nat) (v : Value) (pre : List Tok) (W : World), fsz l < n → d ≤ 200 → (∃ r, tk = pre ++ (toksP d l ++ r)) → FrRead w0 S v l → J pre W →
      CallsIn Fence.wide 1 Tryz.prog 84 #[v, .int .i64 d, .func (.yield lb) #[] #[]] W (PassEnd pre (toksP d l) J X W) := by
  intro n
  induction n with
  | zero => intro l d v pre W h; omega
  | succ n ih =>
    intro l d v pre W hn hd hpx hr hj
    have HPX := Lib.hid hpx
    clear hpx
    have HR := Lib.hid hr
    obtain ⟨va, vc, vg, vo, rfl, hm, ha, hat⟩ := hr
    have HAT := Lib.hid hat
    have HA := Lib.hid ha
    have HJ := Lib.hid hj
    obtain ⟨hm1, hm2⟩ := hm
    unfold maxLen at hm1
    clear hat hj ha
    refine callsIn_of_wp Tryz.func84 rfl trivial ?_ rfl
    simp only [Tryz.ntmps84, List.size_toArray, List.length_cons, List.length_nil, Nat.reduceAdd, Nat.reduceSub, Array.replicate_succ, Array.replicate_zero, List.push_toArray, List.append_toArray, List.nil_append, List.cons_append]
    gi_wp2
    gi_loopw [11] (fun x wr => ∃ k : Nat, k ≤ l.length ∧ x = .int .i64 k ∧ Hid (J (pre ++ toksP d (l.take k)) wr) ∧ Hid (Keep52 W wr)) (fun x _ => l.length - (intOf x).toNat)
    case atStart => exact ⟨0, by omega, rfl, Lib.hid (by simpa [toksP] using HJ.out), Lib.hid fun _ _ h => h⟩
    case round =>
      clear HJ
      obtain ⟨k, hk, rfl, HJ, HKP⟩ := hrel
      by_cases hlt : k < l.length
      · obtain ⟨f, hf⟩ : ∃ f, l[k]? = some f := ⟨_, List.getElem?_eq_getElem hlt⟩
        have hva : va = some ⟨vg, vo, none⟩ := HA.out (by intro h; rw [h] at hlt; simp at hlt)
        subst hva
        obtain ⟨kv, hs, hg, c0, c1, c2, c3, c4, c5, c6, hkr⟩ := HAT.out.get hf
        obtain ⟨ka, kc, hkv⟩ : ∃ a c, kv = .slice a f.kids.length c := by obtain ⟨a, c, _, _, h, _⟩ := hkr; exact ⟨a, c, h⟩
        subst hkv
        have hbl := hJ1 _ _ HJ.out
        have m0 := (hbl.cell (p := ⟨vg, vo + k * 7, none⟩) hg).trans c0
        have m1 := (hbl.cell (p := ⟨vg, vo + k * 7 + 1, none⟩) hg).trans c1
        have m2 := (hbl.cell (p := ⟨vg, vo + k * 7 + 2, none⟩) hg).trans c2
        have m3 := (hbl.cell (p := ⟨vg, vo + k * 7 + 3, none⟩) hg).trans c3
        have m4 := (hbl.cell (p := ⟨vg, vo + k * 7 + 4, none⟩) hg).trans c4
        have m5 := (hbl.cell (p := ⟨vg, vo + k * 7 + 5, none⟩) hg).trans c5
        have m6 := (hbl.cell (p := ⟨vg, vo + k * 7 + 6, none⟩) hg).trans c6
        have HKR := Lib.hid hkr
        have HF := Lib.hid hf
        have HTK := Lib.hid (toksP_take d hf)
        have hfn : fsz f.kids < n := by have := fsz_kids hf; omega
        have k1 : (k : Int) < (l.length : Int) := by omega
        clear c0 c1 c2 c3 c4 c5 c6 hkr hf hbl hs
        have hsp := toksP_split d HF.out
        have hba := (Below.refl wr.heap.size wr).alloc (Nat.le_refl _) (.cells (frC f.tok f.op (.slice ka f.kids.length kc)).toArray 52)
        have hja := hJ2 _ _ _ HJ.out hba
        have hna := heap_alloc_new wr (.cells (frC f.tok f.op (.slice ka f.kids.length kc)).toArray 52)
        have HJA0 := Lib.hid hja
        have HSP := Lib.hid hsp
        have HNA := Lib.hid hna
        have HKA := Lib.hid (HKP.out.trans (Keep52.bl hba))
        clear hsp hba hna hja
        cases e1 : (f.op.toList == [])
        · have e2 : f.op.toList.isEmpty = false := by rw [← e1]; cases f.op.toList <;> rfl
          have hop : ¬ f.op.toList = [] := by intro h; rw [h] at e1; simp at e1
          by_cases h100 : d ≤ 100
          · have htf : tokF d f = f.tok :: (toksP (d + 1) f.kids ++ [closeTok f.tok f.op]) := by unfold tokF; rw [if_neg hop, if_pos h100]
            have HTF := Lib.hid htf
            have d1 : decide ((d : Int) ≤ 100) = true := decide_eq_true (by omega)
            clear htf hop
            obtain ⟨fn, tmps, assign, body, hy, hR⟩ := hY _ f.tok _ (by obtain ⟨r, hr⟩ := HPX.out; exact ⟨toksP (d + 1) f.kids ++ (closeTok f.tok f.op :: (toksP d (l.drop (k + 1)) ++ r)), by rw [hr, HSP.out, HTF.out]; simp [List.append_assoc]⟩) HJA0.out
            unfold TokV tokC at hy
            unfold frC at hy hR
            gi_wp2_with fail
            refine hR.mono ?_
            rintro e W5 ⟨⟨rfl, hJ5⟩ | ⟨rfl, hX5⟩, hkp⟩
            · have hn5 := hkp _ _ HNA.out
              obtain ⟨n0, n1, n2, n3, n4, n5, n6⟩ := fr_new7 hn5
              have HN5 := Lib.hid hn5
              have hih := ih f.kids (d + 1) _ _ W5 hfn (by omega) (by obtain ⟨r, hr⟩ := HPX.out; exact ⟨closeTok f.tok f.op :: (toksP d (l.drop (k + 1)) ++ r), by rw [hr, HSP.out, HTF.out]; simp [List.append_assoc]⟩) HKR.out hJ5
              rw [show ((d + 1 : Nat) : Int) = (d : Int) + 1 by omega] at hih
              have HIH := Lib.hid hih
              have HKP5 := Lib.hid (HKA.out.trans hkp)
              clear hJ5 hkp hn5 hih
              gi_wp2_with fail
              refine ⟨trivial, (callsIn_wide.2 (callsIn_wide.1 HIH.out)).mono ?_⟩
              rintro e W6 ⟨⟨rfl, hJ6⟩ | ⟨rfl, a, b, hab, hX6⟩, hkp6⟩
              · have hn6 := hkp6 _ _ HN5.out
                clear n0 n1 n2 n3 n4 n5 n6
                obtain ⟨n0, n1, n2, n3, n4, n5, n6⟩ := fr_new7 hn6
                have HKP6 := Lib.hid (HKP5.out.trans hkp6)
                have HJ6 := Lib.hid hJ6
                have hclo := closing_any f.tok f.op (.slice ka f.kids.length kc) W6
                unfold frC TokV tokC at hclo
                have HCL := Lib.hid hclo
                clear hJ6 hkp6 hn6 hclo
                gi_wp2_with fail
                refine ⟨trivial, (callsIn_wide.2 HCL.out).mono ?_⟩
                rintro e W7 ⟨rfl, hb7⟩
                obtain ⟨fn2, tmps2, assign2, body2, hy2, hR2⟩ := hY _ (closeTok f.tok f.op) _ (by obtain ⟨r, hr⟩ := HPX.out; exact ⟨toksP d (l.drop (k + 1)) ++ r, by rw [hr, HSP.out, HTF.out]; simp [List.append_assoc]⟩) (hJ2 _ _ _ HJ6.out hb7)
                have HKP7 := Lib.hid (HKP6.out.trans (Keep52.bl hb7))
                unfold TokV tokC at hy2
                clear hb7 n0 n1 n2 n3 n4 n5 n6
                gi_wp2_with fail
                refine hR2.mono ?_
                rintro e W8 ⟨⟨rfl, hJ8⟩ | ⟨rfl, hX8⟩, hkp8⟩
                · have HJ8 : Hid (J (pre ++ toksP d (l.take (k + 1))) W8) := Lib.hid (by rw [HTK.out, HTF.out]; simpa [List.append_assoc] using hJ8)
                  have HKP8 := Lib.hid (HKP7.out.trans hkp8)
                  clear hJ8 hkp8
                  gi_wp2_with fail
                  go_roundw
                  case rel => exact ⟨k + 1, by omega, rfl, HJ8, HKP8⟩
                  case measure => simp [intOf]; omega
                · have HX8 := Lib.hid hX8
                  have HKP8 := Lib.hid (HKP7.out.trans hkp8)
                  clear hX8 hkp8
                  gi_wp2_with fail
                  go_ret
                  exact ⟨.inr ⟨rfl, _, toksP d (l.drop (k + 1)), by rw [HSP.out, HTF.out]; simp, HX8.out⟩, HKP8.out⟩
              · have HX6 := Lib.hid hX6
                have HAB := Lib.hid hab
                have HKP6 := Lib.hid (HKP5.out.trans hkp6)
                clear hX6 hab hkp6
                gi_wp2_with fail
                refine ⟨trivial, ?_⟩
                gi_wp2_with fail
                refine ⟨fun _ _ => trivial, ?_⟩
                gi_wp2_with fail
                go_ret
                exact ⟨.inr ⟨rfl, a, b ++ (closeTok f.tok f.op :: toksP d (l.drop (k + 1))), by rw [HSP.out, HTF.out, ← List.append_assoc a, ← HAB.out]; simp, HX6.out⟩, HKP6.out⟩
            · have HX5 := Lib.hid hX5
              have HKP5 := Lib.hid (HKA.out.trans hkp)
              clear hX5 hkp
              gi_wp2_with fail
              refine ⟨trivial, ?_⟩
              gi_wp2_with fail
              refine ⟨trivial, ?_⟩
              gi_wp2_with fail
              refine ⟨fun _ _ => trivial, ?_⟩
              gi_wp2_with fail
              go_ret
              exact ⟨.inr ⟨rfl, _, toksP (d + 1) f.kids ++ (closeTok f.tok f.op :: toksP d (l.drop (k + 1))), by rw [HSP.out, HTF.out]; simp, HX5.out⟩, HKP5.out⟩
          · have htf : tokF d f = [] := by unfold tokF; rw [if_neg hop, if_neg h100]
            have d1 : decide ((d : Int) ≤ 100) = false := decide_eq_false (by omega)
            have HJA : Hid (J (pre ++ toksP d (l.take (k + 1))) (wr.alloc (.cells (frC f.tok f.op (.slice ka f.kids.length kc)).toArray 52))) := Lib.hid (by rw [HTK.out, htf, List.append_nil]; exact hJ2 _ _ _ HJ.out ((Below.refl wr.heap.size wr).alloc (Nat.le_refl _) _))
            unfold frC at HJA HKA
            clear htf hop
            gi_wp2_with fail
            go_roundw
            case rel => exact ⟨k + 1, by omega, rfl, HJA, HKA⟩
            case measure => simp [intOf]; omega
        · have e2 : f.op.toList.isEmpty = true := by rw [← e1]; cases f.op.toList <;> rfl
          have hop : f.op.toList = [] := by simpa using e1
          have htf : tokF d f = [f.tok] := by unfold tokF; rw [if_pos hop]
          have HTF := Lib.hid htf
          clear htf hop
          obtain ⟨fn, tmps, assign, body, hy, hR⟩ := hY _ f.tok _ (by obtain ⟨r, hr⟩ := HPX.out; exact ⟨toksP d (l.drop (k + 1)) ++ r, by rw [hr, HSP.out, HTF.out]; simp [List.append_assoc]⟩) HJA0.out
          unfold TokV tokC at hy
          unfold frC at hy hR
          gi_wp2_with fail
          refine hR.mono ?_
          rintro e W5 ⟨⟨rfl, hJ5⟩ | ⟨rfl, hX5⟩, hkp⟩
          · have HJ5 : Hid (J (pre ++ toksP d (l.take (k + 1))) W5) := Lib.hid (by rw [HTK.out, HTF.out, ← List.append_assoc]; exact hJ5)
            have HKP5 := Lib.hid (HKA.out.trans hkp)
            clear hJ5 hkp
            gi_wp2_with fail
            go_roundw
            case rel => exact ⟨k + 1, by omega, rfl, HJ5, HKP5⟩
            case measure => simp [intOf]; omega
          · have HX5 := Lib.hid hX5
            have HKP5 := Lib.hid (HKA.out.trans hkp)
            clear hX5 hkp
            gi_wp2_with fail
            go_ret
            exact ⟨.inr ⟨rfl, _, toksP d (l.drop (k + 1)), by rw [HSP.out, HTF.out]; simp, HX5.out⟩, HKP5.out⟩
      · obtain rfl : k = l.length := by omega
        have hj := HJ.out
        rw [List.take_length] at hj
        have HJ2 := Lib.hid hj
        clear hj
        gi_wp2_with fail
        go_ret
        exact ⟨.inl ⟨rfl, HJ2.out⟩, HKP.out⟩
set_option maxRecDepth 100000 in
set_option maxHeartbeats 4000000 in
theorem tokens2_any (lb bx : Nat) (l : List Fr) (J X : List Tok → World → Prop) (w0 : World) (S : Nat → Prop) (hJ1 : ∀ pre W, J pre W → Below w0.heap.size w0 W) (hJ2 : ∀ pre W W', J pre W → Below W.heap.size W W' → J pre W')
    (hY : ∀ pre t W, (∃ r, toksP 1 l = pre ++ t :: r) → J pre W → YieldAt Fence.wide 0 Tryz.prog lb #[TokV t] W fun e W' => ((e = .returned (.bool true) ∧ J (pre ++ [t]) W') ∨ (e = .returned (.bool false) ∧ X (pre ++ [t]) W')) ∧ Keep52 W W')
    (v : Value) (hb : ∀ pre W, J pre W → W.cell? ⟨bx, 0, none⟩ = some v) (hr : FrRead w0 S v l) (W : World) (h0 : J [] W) :
    CallsIn Fence.wide 1 Tryz.prog 83 #[.func (.yield lb) #[] #[], .pointer (some ⟨bx, 0, none⟩)] W (TokEnd (toksP 1 l) J X) := by
  have hp := pass2_any lb (toksP 1 l) J X w0 S hJ1 hJ2 hY (fsz l + 1) l 1 v [] W (Nat.lt_succ_self _) (by omega) ⟨[], by simp⟩ hr h0
  have HP := Lib.hid hp
  obtain ⟨a, c, _, _, rfl, _⟩ := hr
  have m0 := hb _ _ h0
  clear hp hb h0 hJ1 hJ2 hY
  refine callsIn_of_wp Tryz.func83 rfl trivial ?_ rfl
  simp only [Tryz.ntmps83, List.size_toArray, List.length_cons, List.length_nil, Nat.reduceAdd, Nat.reduceSub, Array.replicate_succ, Array.replicate_zero, List.push_toArray, List.append_toArray, List.nil_append, List.cons_append]
  gi_wp2_with fail
  refine ⟨trivial, (callsIn_wide.2 (callsIn_wide.1 HP.out)).mono ?_⟩
  rintro e W6 ⟨⟨rfl, hJ6⟩ | ⟨rfl, a, b, hab, hX6⟩, hkp6⟩
  · have HJ6 := Lib.hid hJ6
    clear hJ6 hkp6
    gi_wp2_with fail
    go_end0
    exact .inl ⟨rfl, by simpa using HJ6.out⟩
  · have HX6 := Lib.hid hX6
    have HAB := Lib.hid hab
    clear hX6 hkp6 hab
    gi_wp2_with fail
    go_end0
    exact .inr ⟨rfl, a, b, by simpa using HAB.out, HX6.out⟩

theorem range_toks2 {g : Operand} {ps : Array Tmp} {assign body : Code} {Q : Exit → Act → World → Prop} {a : Act} {w : World} (S : Nat → Prop)
    (l : List Fr) (bx : Nat) (v : Value) (w0 : World) (hr : FrRead w0 S v l)
    (hg : a.eval g = .func (.func 83) #[] #[.pointer (some ⟨bx, 0, none⟩)]) (hps : ps.size = 1)
    (I : List Tok → World → Prop) (Ix : Code → List Tok → World → Prop)
    (hI1 : ∀ pre W, I pre W → Below w0.heap.size w0 W ∧ W.cell? ⟨bx, 0, none⟩ = some v) (hI2 : ∀ pre W W', I pre W → Below W.heap.size W W' → I pre W')
    (hI : StableT w.heap.size I) (hIx : ∀ c, StableT w.heap.size (Ix c)) (h0 : I [] w)
    (Ax : Tok → Act → World → Prop) (hAx : ∀ t a' W k o o', Ax t a' W → W.heap[k]? = some o → o.isCells = false → Ax t a' (W.putObj k o'))
    (hassign : ∀ (lb : Nat) (t : Tok) (W : World) (K : Act → World → Prop), (∀ a' W', Ax t a' W' → Below W.heap.size W W' → K a' W') →
      assign.wpIn (Fence.wide.inRound lb) 0 Tryz.prog (Exit.then K (fun _ _ _ => False)) { tmps := (ps.zip #[TokV t]).foldl (fun t (p, v) => t.setIfInBounds p v) a.tmps, defers := [] } W)
    (hbody : ∀ (lb : Nat) (pre : List Tok) (t : Tok) (a' : Act) (W : World), (∃ r, toksP 1 l = pre ++ t :: r) → I pre W → Ax t a' W → body.wpIn (Fence.wide.inRound lb) 0 Tryz.prog (bodyPostT w.heap.size I Ix (pre ++ [t]) W) a' W)
    (hdone : ∀ (D : Nat) (W : World), w.heap.size ≤ D → I (toksP 1 l) W → W.heap[D]? = some (.deferred (some [])) → Q .normal { a with defers := { target := .collected D, args := #[] } :: a.defers } W)
    (hstop : ∀ (D : Nat) (c : Code) (pre rest : List Tok) (W : World), w.heap.size ≤ D → Ix c pre W → toksP 1 l = pre ++ rest → W.heap[D]? = some (.deferred (some [])) → c.wpIn Fence.wide 2 Tryz.prog Q { a with defers := { target := .collected D, args := #[] } :: a.defers } W) :
    (Code.rangeFunc g ps assign body).wpIn Fence.wide 2 Tryz.prog Q a w := by
  refine wpIn_rangeFunc ?_
  intro fn hfn
  obtain ⟨rec, hrec⟩ : ∃ rec : LoopState → Option Code → Loop, rec = fun st pe => { state := st, pending := pe, fn, tmps := a.tmps, params := ps, assign, body, defers := w.heap.size } := ⟨_, rfl⟩
  obtain ⟨W1, hW1⟩ : ∃ W1, (w.alloc (.deferred (some []))).alloc (.loop (rec .ready none)) = W1 := ⟨_, rfl⟩
  have hL1 : W1.heap[w.heap.size + 1]? = some (.loop (rec .ready none)) := by
    rw [← hW1]; have := World.alloc_heap_new (w.alloc (.deferred (some []))) (.loop (rec .ready none)); rwa [World.size_alloc] at this
  have hK1 : W1.heap[w.heap.size]? = some (.deferred (some [])) := by
    rw [← hW1]; exact (Below.heap_alloc _ _ _ (by simp)).trans (World.alloc_heap_new w _)
  have put : ∀ {J : List Tok → World → Prop}, StableT w.heap.size J → ∀ {pre W} (k : Nat) (o o' : Obj), J pre W → w.heap.size ≤ k → W.heap[k]? = some o → o.isCells = false → J pre (W.putObj k o') :=
    fun {J} hJ {pre W} k o o' h hk hl ho => (hJ pre).putObj (s := ()) o' h hk hl ho
  have alc : ∀ {J : List Tok → World → Prop}, StableT w.heap.size J → ∀ {pre W} (o : Obj), J pre W → J pre (W.alloc o) :=
    fun {J} hJ {pre W} o h => (hJ pre).alloc (s := ()) o h
  have hI1' : I [] W1 := by rw [← hW1]; exact alc hI _ (alc hI _ h0)
  refine ⟨w.heap.size + 1, [{ target := .collected w.heap.size, args := #[] }], W1, { target := .fn (.func 83) #[.pointer (some ⟨bx, 0, none⟩)], args := #[.func (.yield (w.heap.size + 1)) #[] #[]] }, W1, 83,
    #[.func (.yield (w.heap.size + 1)) #[] #[], .pointer (some ⟨bx, 0, none⟩)], W1, ?_, ?_, ?_, ?_, fun _ => by omega, ?_⟩
  · rw [← hW1, hrec]; exact run_enterLoop_outer _ _ _ _ _
  · simp only [resolve, hg]
    simp [go_sem]
  · intro f' _; trivial
  · simp [invoke, go_sem]
  · refine (tokens2_any (w.heap.size + 1) bx l
      (fun pre W => I pre W ∧ W.heap[w.heap.size + 1]? = some (.loop (rec .ready none)) ∧ W.heap[w.heap.size]? = some (.deferred (some [])))
      (fun pre W => ∃ c, Ix c pre W ∧ W.heap[w.heap.size + 1]? = some (.loop (rec .done (some c))) ∧ W.heap[w.heap.size]? = some (.deferred (some [])))
      w0 S (fun pre W h => (hI1 pre W h.1).1)
      (fun pre W W' h hb => ⟨hI2 pre W W' h.1 hb, (hb.block _ (Array.getElem?_eq_some_iff.1 h.2.1).1).trans h.2.1, (hb.block _ (Array.getElem?_eq_some_iff.1 h.2.2).1).trans h.2.2⟩)
      ?_ v (fun pre W h => (hI1 pre W h.1).2) hr W1 ⟨hI1', hL1, hK1⟩).mono ?_
    · rintro pre t W hpre ⟨hi, hl, hk⟩
      have hlt : w.heap.size + 1 < W.heap.size := (Array.getElem?_eq_some_iff.1 hl).1
      have hy := run_yield (P := Tryz.prog) (args := #[TokV t]) hl (by rw [hrec]; exact hps.symm)
      rw [hrec] at hy
      refine ⟨fn, _, assign, body, hy, roundIn_of_wpIn hfn (hassign _ t W _ fun a2 W2 hax hb2 => ?_)⟩
      have hlA : W2.heap[w.heap.size + 1]? = some (.loop (rec .ready none)) := (hb2.block _ hlt).trans hl
      have hkA : W2.heap[w.heap.size]? = some (.deferred (some [])) := (hb2.block _ (by omega)).trans hk
      have hiA : I pre W2 := hI2 _ _ _ hi hb2
      have hltA : w.heap.size + 1 < W2.heap.size := (Array.getElem?_eq_some_iff.1 hlA).1
      refine ⟨_, run_beginRound hlA (by rw [hrec]), ?_⟩
      have hl2 : (W2.putObj (w.heap.size + 1) (.loop { rec .ready none with state := .busy })).heap[w.heap.size + 1]? = some (.loop { rec .ready none with state := .busy }) := World.putObj_heap_same hltA
      have hk2 : (W2.putObj (w.heap.size + 1) (.loop { rec .ready none with state := .busy })).heap[w.heap.size]? = some (.deferred (some [])) := (World.putObj_heap_other (by omega)).trans hkA
      have hkp2 : Keep52 W (W2.putObj (w.heap.size + 1) (.loop { rec .ready none with state := .busy })) := (Keep52.bl hb2).trans (keep52_put _ hlA rfl)
      refine wpIn_mono (hbody _ pre t a2 _ hpre (put hI _ _ _ hiA (by omega) hlA rfl) (hAx _ _ _ _ _ _ hax hlA rfl)) ?_
      have fin : ∀ (jump : Option Code) (W3 : World), KeepsFrom w.heap.size (W2.putObj (w.heap.size + 1) (.loop { rec .ready none with state := .busy })) W3 →
          (Instr.endRound (w.heap.size + 1) jump).run Tryz.prog W3 = .ok (.bool jump.isNone) (W3.putObj (w.heap.size + 1) (.loop (rec (if jump.isNone then .ready else .done) jump))) ∧
          W3.heap[w.heap.size + 1]? = some (.loop { rec .ready none with state := .busy }) ∧
          (W3.putObj (w.heap.size + 1) (.loop (rec (if jump.isNone then .ready else .done) jump))).heap[w.heap.size + 1]? = some (.loop (rec (if jump.isNone then .ready else .done) jump)) ∧
          (W3.putObj (w.heap.size + 1) (.loop (rec (if jump.isNone then .ready else .done) jump))).heap[w.heap.size]? = some (.deferred (some [])) := fun jump W3 hk3 => by
        have hl3 := hk3.same _ _ (by omega) hl2 rfl
        have := run_endRound (P := Tryz.prog) jump hl3
        rw [hrec] at this ⊢
        exact ⟨this, by rw [hrec] at hl3; exact hl3, World.putObj_heap_same (Array.getElem?_eq_some_iff.1 hl3).1, (World.putObj_heap_other (by omega)).trans (hk3.same _ _ (Nat.le_refl _) hk2 rfl)⟩
      rintro e a3 W3 hp
      cases e with
      | normal =>
        obtain ⟨hk3, h52, hi3⟩ := hp
        obtain ⟨hr, hl3, hl4, hk4⟩ := fin none W3 hk3
        exact ⟨_, _, hr, .inl ⟨rfl, put hI _ _ _ hi3 (by omega) hl3 rfl, hl4, hk4⟩, (hkp2.trans h52).trans (keep52_put _ hl3 rfl)⟩
      | ret =>
        obtain ⟨hk3, h52, hi3⟩ := hp
        obtain ⟨hr, hl3, hl4, hk4⟩ := fin (some .ret) W3 hk3
        exact ⟨_, _, hr, .inr ⟨rfl, .ret, put (hIx _) _ _ _ hi3 (by omega) hl3 rfl, hl4, hk4⟩, (hkp2.trans h52).trans (keep52_put _ hl3 rfl)⟩
      | exit id =>
        obtain ⟨hk3, h52, hi3⟩ := hp
        obtain ⟨hr, hl3, hl4, hk4⟩ := fin (some (.exit id)) W3 hk3
        exact ⟨_, _, hr, .inr ⟨rfl, .exit id, put (hIx _) _ _ _ hi3 (by omega) hl3 rfl, hl4, hk4⟩, (hkp2.trans h52).trans (keep52_put _ hl3 rfl)⟩
      | goto t =>
        obtain ⟨hk3, h52, hi3⟩ := hp
        obtain ⟨hr, hl3, hl4, hk4⟩ := fin (some (.goto t)) W3 hk3
        exact ⟨_, _, hr, .inr ⟨rfl, .goto t, put (hIx _) _ _ _ hi3 (by omega) hl3 rfl, hl4, hk4⟩, (hkp2.trans h52).trans (keep52_put _ hl3 rfl)⟩
      | panic _ => exact hp.elim
      | outgrown => exact hp.elim
    · rintro e W3 (⟨rfl, hi, hl, hk⟩ | ⟨rfl, pre, rest, hq, c, hi, hl, hk⟩)
      · exact ⟨none, _, by have := run_endLoop (P := Tryz.prog) hl (by rw [hrec]; simp); rw [hrec] at this; exact this, hdone _ _ (Nat.le_refl _) (put hI _ _ _ hi (by omega) hl rfl) ((World.putObj_heap_other (by omega)).trans hk)⟩
      · exact ⟨some c, _, by have := run_endLoop (P := Tryz.prog) hl (by rw [hrec]; simp); rw [hrec] at this; exact this, hstop _ c pre rest _ (Nat.le_refl _) (put (hIx _) _ _ _ hi (by omega) hl rfl) hq ((World.putObj_heap_other (by omega)).trans hk)⟩
end Go.Proofs.YtopbmndjnjnmcaaGreatDoor

/- (S3) -/
/- Package fragment: Flat, Same and Check. -/
namespace Go.Proofs.YtopbmndjnjnmcaaGreatDoor
open Go.RowKit Lx

attribute [local go_sem] Oper.semAt_some

/-- What AppendSeq holds: a box with the tokens that have come. -/
def AsI (w : World) (pre : List Tok) (W : World) : Prop :=
  (∃ v, Boxed W w.heap.size 22 v ∧ W.ownsRow w.heap.size 50 5 v pre.length (toksC pre)) ∧ Below w.heap.size w W
theorem AsI.grown {w : World} {pre : List Tok} {W W' : World} {row : Option Nat} (h : AsI w pre W) (hg : W.grownBy W' row) (hrow : ∀ r, row = some r → w.heap.size + 1 ≤ r ∧ ∃ o : Obj, W.heap[r]? = some o ∧ o.isCells = false) : AsI w pre W' := by
  obtain ⟨⟨v, hv, hr⟩, hb⟩ := h
  refine ⟨⟨v, hv.kept hg (fun e => by have := (hrow _ e.symm).1; omega), hr.kept hg ?_⟩, hb.grown hg hb.size (fun k e => by have := (hrow k e).1; omega)⟩
  rcases hr.2 with ⟨rfl, _⟩ | ⟨g, cap, cur, rfl, _, hgb, _⟩
  · exact .inl rfl
  · refine .inr fun e => ?_
    obtain ⟨_, o, ho, hc⟩ := hrow g (by simpa [Value.ownBlock] using e.symm)
    rw [hgb] at ho; cases ho; cases hc
theorem AsI.bl {w : World} {pre : List Tok} {W W' : World} (h : AsI w pre W) (hb : Below W.heap.size W W') : AsI w pre W' := h.grown (grown_bl hb none) (fun r e => by cases e)

theorem keep52_app {W w1 : World} {B base k : Nat} {v u : Value} {xs : List Value} {tmp : Obj} (hv : Boxed W B 22 v) (hro : W.ownsRow base 50 5 v k xs) (hg : (W.alloc tmp).grownBy w1 v.ownBlock) : Keep52 W (w1.setCell ⟨B, 0, none⟩ u) := fun b cs hb => by
  have hlt := (Array.getElem?_eq_some_iff.1 hb).1
  have h1 : some b ≠ v.ownBlock := by
    rcases hro.2 with ⟨rfl, _⟩ | ⟨g, cap, cur, rfl, _, hgb, _⟩
    · simp [Value.ownBlock]
    · intro e
      obtain rfl : b = g := by simpa [Value.ownBlock] using e
      rw [hb] at hgb
      simp at hgb
  have h2 : b ≠ B := fun e => by
    subst e
    unfold Boxed at hv
    rw [hb] at hv
    simp at hv
  exact (set_ne _ _ _ _ h2).trans ((hg.block b (by rw [World.size_alloc]; omega) h1).trans ((Below.heap_alloc _ _ _ hlt).trans hb))

set_option maxRecDepth 100000 in
set_option maxHeartbeats 4000000 in
theorem appendSeq_in (S : Nat → Prop) (l : List Fr) (v : Value) (bx : Nat) (w : World) (hr : FrRead w S v l) (hbx : w.cell? ⟨bx, 0, none⟩ = some v) (hlen : (toksP 1 l).length ≤ 6000) :
    CallsIn Fence.wide 2 Tryz.prog 88 #[.slice none 0 0, .func (.func 83) #[] #[.pointer (some ⟨bx, 0, none⟩)]] w fun e W => ∃ a n c, e = .returned (.slice a n c) ∧ TokRead W (.slice a n c) (toksP 1 l) ∧ (a = none → c = 0) ∧ Below w.heap.size w W := by
  have HR := Lib.hid hr
  have HBX := Lib.hid hbx
  have hbl := cell_lt' hbx
  obtain ⟨i0, hi0, hz0, hz1, hz2⟩ := info_parts info50z
  clear hr hbx
  refine callsIn_of_wp_marks Tryz.func88 rfl trivial ?_ rfl
  simp only [Tryz.ntmps88, List.size_toArray, List.length_cons, List.length_nil, Nat.reduceAdd, Nat.reduceSub, Array.replicate_succ, Array.replicate_zero, List.push_toArray, List.append_toArray, List.nil_append, List.cons_append]
  have h0 : AsI w [] (w.alloc (.cells #[.slice none 0 0] 22)) := ⟨⟨_, Boxed.new w 22 (.slice none 0 0), rfl, .inl ⟨rfl, rfl⟩⟩, (Below.refl _ w).alloc (Nat.le_refl _) _⟩
  have H0 := Lib.hid h0
  clear h0
  gi_wp2_with fail
  refine range_toks2 S l bx v w HR.out rfl rfl (AsI w) (fun _ _ _ => False)
    (fun pre W h => ⟨h.2, (h.2.cell (p := ⟨bx, 0, none⟩) hbl).trans HBX.out⟩) (fun pre W W' h hb => h.bl hb) (fun pre _ W W' row h hg hrow => h.grown hg (fun r e => by have := hrow r e; simpa using this)) (fun c pre _ W W' row h hg hrow => h) H0.out
    (fun t a' W => ∃ N, a' = { tmps := #[.slice none 0 0, .func (.func 83) #[] #[.pointer (some ⟨bx, 0, none⟩)], .pointer (some ⟨w.heap.size, 0, none⟩), undef, .slice none 0 0, .pointer (some ⟨N, 0, none⟩), .func (.func 83) #[] #[.pointer (some ⟨bx, 0, none⟩)], TokV t, undef, undef, undef, undef, undef], defers := [] } ∧ W.heap[N]? = some (.cells (tokC t) 50 (0, 0)))
    (fun t a' W k o o' h hk ho => ?ax) ?assign ?body ?done ?stop
  case ax =>
    obtain ⟨N, rfl, hN⟩ := h
    refine ⟨N, rfl, (World.putObj_heap_other ?_).trans hN⟩
    rintro rfl
    rw [hN] at hk; cases hk; cases ho
  case assign =>
    intro lb t W K hK
    simp only [TokV, tokC] at hK ⊢
    gi_wp2
    exact hK _ _ ⟨_, rfl, heap_alloc_new _ _⟩ ((Below.refl _ _).alloc (Nat.le_refl _) _)
  case body =>
    rintro lb pre t a' W ⟨r, hpre⟩ ⟨⟨v0, hv, hro⟩, hb⟩ ⟨N, rfl, hN⟩
    obtain ⟨va, vn, vc, rfl⟩ := ownsRow_slice hro
    obtain ⟨t0, t1, t2, t3, t4⟩ := tok_cells hN
    have hpl : pre.length < 6001 := by rw [hpre, List.length_append] at hlen; omega
    have c1 := hv.cell
    have f1 := hv.frozen
    have HV := Lib.hid hv
    have HRO := Lib.hid hro
    have HB := Lib.hid hb
    have hbs := hb.size
    unfold TokV tokC
    clear hv hro hb hpre hN
    gi_wp2_with (gi_at_builtin; go_must (refine wpListIn_append_own _ rfl (.tmp 8) (.tmp 10) 22 rfl w.heap.size 50 i0 _ 5 48 Tryz.underlying22 hi0 hz0 hz1 hz2 rfl (by omega) (.slice va vn vc) pre.length (toksC pre) (by rfl) (HRO.out.alloc _) ⟨W.heap.size, 0, none⟩ 1 1 [.int .i64 t.kind, .int .i64 t.num, .string t.text, .int .i64 t.at_, .int .i64 t.mark] (by rfl) (by rfl) (World.news_of_block (cs := #[.int .i64 t.kind, .int .i64 t.num, .string t.text, .int .i64 t.at_, .int .i64 t.mark]) (t := 50) (fr := (0, 0)) (heap_alloc_new _ _)) (by simp [Value.oneCell']) (by unfold maxLen; omega) (by omega) (by rw [World.size_alloc]; omega) ?_); intro v' w1 hown' hgrow hnn; obtain ⟨g1, cap1, rfl⟩ := ownsRow_succ hown'; obtain ⟨hv1, hset, hrow', hko, hbel⟩ := Boxed.appended HV.out (by decide) HRO.out hbs (Nat.le_refl _) hown' hgrow; have d1 := hv1.cell; have e1 := hv1.frozen; have HSET := Lib.hid hset; have HROW := Lib.hid hrow'; have HKO := Lib.hid hko; have HBEL := Lib.hid hbel; have HK5 := Lib.hid (keep52_app (u := .slice (some ⟨g1, 0, none⟩) (pre.length + 1) cap1) HV.out HRO.out hgrow); clear hv1 hset hrow' hko hbel hgrow hown' hnn)
    exact ⟨HKO.out.from _, HK5.out, ⟨_, HSET.out, by rw [List.length_append, toksC_app]; exact HROW.out⟩, HB.out.trans HBEL.out⟩
  case done =>
    rintro D W hD ⟨⟨v0, hv, hro⟩, hb⟩ hK
    obtain ⟨va, vn, vc, rfl⟩ := ownsRow_slice hro
    have c1 := hv.cell
    have HRO := Lib.hid hro
    have HB := Lib.hid hb
    clear hv hro hb
    gi_wp2
    refine ⟨by simp, .inl ⟨D, _, rfl, run_takeDeferred hK, ?_⟩⟩
    have hdl : w.heap.size + 1 ≤ D := by simpa using hD
    refine ⟨_, results_tmp rfl _ _ _, va, vn, vc, rfl, tok_owns (ownsRow_putObj HRO.out _ hK rfl) rfl (by unfold maxLen; omega), fun hn => ?_, HB.out.trans (belowK_b (w := w) (Nat.le_refl _) _ D _ _ (by omega) hK rfl rfl)⟩
    rcases HRO.out.2 with ⟨h, _⟩ | ⟨g, cap, cur, h, _⟩
    · cases h; rfl
    · cases h; cases hn
  case stop =>
    rintro D c pre rest W hD h
    exact h.elim

/-- **slices.AppendSeq** of the tokens of fragments to nothing -/
theorem appendSeq_any (S : Nat → Prop) (l : List Fr) (v : Value) (bx : Nat) (w : World) (hr : FrRead w S v l) (hbx : w.cell? ⟨bx, 0, none⟩ = some v) (hlen : (toksP 1 l).length ≤ 6000) :
    Calls Tryz.prog 88 #[.slice none 0 0, .func (.func 83) #[] #[.pointer (some ⟨bx, 0, none⟩)]] w fun e W => ∃ a n c, e = .returned (.slice a n c) ∧ TokRead W (.slice a n c) (toksP 1 l) ∧ (a = none → c = 0) ∧ Below w.heap.size w W :=
  (callsIn_wide (n := 2)).1 (appendSeq_in S l v bx w hr hbx hlen)

set_option maxRecDepth 100000 in
/-- **slices.Collect** of the tokens of fragments -/
theorem collect_any (S : Nat → Prop) (l : List Fr) (v : Value) (bx : Nat) (w : World) (hr : FrRead w S v l) (hbx : w.cell? ⟨bx, 0, none⟩ = some v) (hlen : (toksP 1 l).length ≤ 6000) :
    Calls Tryz.prog 59 #[.func (.func 83) #[] #[.pointer (some ⟨bx, 0, none⟩)]] w fun e W => ∃ a n c, e = .returned (.slice a n c) ∧ TokRead W (.slice a n c) (toksP 1 l) ∧ (a = none → c = 0) ∧ Below w.heap.size w W := by
  have HC := Lib.hid (appendSeq_any S l v bx w hr hbx hlen)
  clear hr hbx
  go_enter Tryz.func59, Tryz.ntmps59
  go_wp2_with fail
  go_at_call 88
  refine HC.out.mono ?_
  rintro e W1 ⟨a, n, c, rfl, h1, h2, h3⟩
  have H1 := Lib.hid h1
  have H2 := Lib.hid h2
  clear h1 h2
  go_wp2_with fail
  go_ret
  exact ⟨a, n, c, rfl, H1.out, H2.out, h3⟩

theorem sizeP_le {l : List Fr} (h : fitsP l = true) : (toksP 1 l).length ≤ 6000 := by
  unfold fitsP sizeP at h
  simp at h
  omega

set_option maxRecDepth 100000 in
/-- **fits** -/
theorem fits_any (S : Nat → Prop) (l : List Fr) (v : Value) (w : World) (hr : FrRead w S v l) :
    Calls Tryz.prog 58 #[v] w fun e W => e = .returned (.bool (fitsP l)) ∧ Below w.heap.size w W := by
  have HR := Lib.hid hr
  obtain ⟨a, c, _, _, rfl, _⟩ := hr
  unfold fitsP
  by_cases hd : depthP l ≤ 100
  · have h1 : decide (depthP l ≤ 100) = true := decide_eq_true hd
    by_cases hs : sizeP l ≤ 6000
    · have h2 : decide (sizeP l ≤ 6000) = true := decide_eq_true hs
      have h3 : decide ((sizeP l : Int) ≤ 6000) = true := decide_eq_true (by omega)
      go_enter Tryz.func58, Tryz.ntmps58
      go_wp2_with fail
      go_at_call 23
      refine (Depth_any S l _ _ HR.out).mono ?_
      rintro e W1 ⟨rfl, hb⟩
      have B1 := Lib.hid hb
      clear hb
      go_wp2_with fail
      go_at_call 21
      refine (size_any S l _ _ (HR.out.bl B1.out)).mono ?_
      rintro e W2 ⟨rfl, hb⟩
      have B2 := Lib.hid (B1.out.trans (hb.mono B1.out.size))
      clear hb
      go_wp2_with fail
      go_ret
      exact ⟨by first | rfl | (rw [h1, h2]; rfl), B2.out⟩
    · have h2 : decide (sizeP l ≤ 6000) = false := decide_eq_false hs
      have h3 : decide ((sizeP l : Int) ≤ 6000) = false := decide_eq_false (by omega)
      go_enter Tryz.func58, Tryz.ntmps58
      go_wp2_with fail
      go_at_call 23
      refine (Depth_any S l _ _ HR.out).mono ?_
      rintro e W1 ⟨rfl, hb⟩
      have B1 := Lib.hid hb
      clear hb
      go_wp2_with fail
      go_at_call 21
      refine (size_any S l _ _ (HR.out.bl B1.out)).mono ?_
      rintro e W2 ⟨rfl, hb⟩
      have B2 := Lib.hid (B1.out.trans (hb.mono B1.out.size))
      clear hb
      go_wp2_with fail
      go_ret
      exact ⟨by first | rfl | (rw [h1, h2]; rfl), B2.out⟩
  · have h1 : decide (depthP l ≤ 100) = false := decide_eq_false hd
    go_enter Tryz.func58, Tryz.ntmps58
    go_wp2_with fail
    go_at_call 23
    refine (Depth_any S l _ _ HR.out).mono ?_
    rintro e W1 ⟨rfl, hb⟩
    have B1 := Lib.hid hb
    clear hb
    go_wp2_with fail
    go_ret
    exact ⟨by first | rfl | (rw [h1]; rfl), B1.out⟩

set_option maxRecDepth 100000 in
/-- **Flat** -/
theorem flat_any (S : Nat → Prop) (l : List Fr) (v : Value) (w : World) (hr : FrRead w S v l) :
    Calls Tryz.prog 28 #[v] w fun e W => ∃ a n c, e = .returned (.slice a n c) ∧ TokRead W (.slice a n c) (flatP l) ∧ (a = none → c = 0) ∧ Below w.heap.size w W := by
  have HR := Lib.hid hr
  obtain ⟨a, c, _, _, rfl, _⟩ := hr
  unfold flatP
  cases hf : fitsP l
  · have HF := Lib.hid hf
    clear hf
    go_enter Tryz.func28, Tryz.ntmps28
    go_wp2_with fail
    go_at_call 58
    refine (fits_any S l _ _ HR.out).mono ?_
    rintro e W1 ⟨rfl, hb⟩
    rw [HF.out]
    have B1 := Lib.hid hb
    clear hb
    go_wp2_with fail
    go_ret
    exact ⟨none, 0, 0, rfl, ⟨none, 0, rfl, ⟨Nat.zero_le _, Nat.le_refl _⟩, fun k t h => by simp at h⟩, fun _ => rfl, B1.out⟩
  · have HF := Lib.hid hf
    have HS := Lib.hid (sizeP_le hf)
    clear hf
    go_enter Tryz.func28, Tryz.ntmps28
    go_wp2_with fail
    go_at_call 58
    refine (fits_any S l _ _ HR.out).mono ?_
    rintro e W1 ⟨rfl, hb⟩
    rw [HF.out]
    have B1 := Lib.hid hb
    clear hb
    go_wp2_with fail
    go_at_call 52
    refine (tokens_any _ ⟨_, _, _, rfl⟩ _).mono ?_
    rintro e W2 ⟨rfl, rfl⟩
    have hb2 := (Below.refl W1.heap.size W1).alloc (Nat.le_refl _) (.cells #[.slice a l.length c] 25)
    have B2 := Lib.hid (B1.out.trans (hb2.mono B1.out.size))
    have HC := Lib.hid (collect_any S l (.slice a l.length c) W1.heap.size _ (HR.out.bl B2.out) (Boxed.new W1 25 _).cell HS.out)
    clear hb2
    go_wp2_with fail
    go_at_call 59
    refine HC.out.mono ?_
    rintro e W3 ⟨a3, n3, c3, rfl, h1, h2, h3⟩
    have H1 := Lib.hid h1
    have H2 := Lib.hid h2
    have B3 := Lib.hid (B2.out.trans (h3.mono B2.out.size))
    clear h1 h2 h3
    go_wp2_with fail
    go_ret
    exact ⟨a3, n3, c3, rfl, H1.out, H2.out, B3.out⟩

set_option maxRecDepth 100000 in
/-- **Same** -/
theorem Same_any (S S2 : Nat → Prop) (l l2 : List Fr) (v v2 : Value) (w : World) (hr : FrRead w S v l) (hr2 : FrRead w S2 v2 l2) :
    Calls Tryz.prog 32 #[v, v2] w fun e W => e = .returned (.bool (sameP l l2)) ∧ Below w.heap.size w W := by
  have HR := Lib.hid hr
  have HR2 := Lib.hid hr2
  obtain ⟨a, c, _, _, rfl, _⟩ := hr
  obtain ⟨a2, c2, _, _, rfl, _⟩ := hr2
  unfold sameP
  by_cases hd : depthP l ≤ 100
  · have h1 : decide (depthP l ≤ 100) = true := decide_eq_true hd
    go_enter Tryz.func32, Tryz.ntmps32
    go_wp2_with fail
    go_at_call 23
    refine (Depth_any S l _ _ HR.out).mono ?_
    rintro e W1 ⟨rfl, hb⟩
    have B1 := Lib.hid hb
    clear hb
    go_wp2_with fail
    go_at_call 62
    refine (same_any S S2 (fsz l + 1) l l2 _ _ _ (Nat.lt_succ_self _) (HR.out.bl B1.out) (HR2.out.bl B1.out)).mono ?_
    rintro e W2 ⟨rfl, hb⟩
    have B2 := Lib.hid (B1.out.trans (hb.mono B1.out.size))
    clear hb
    go_wp2_with fail
    go_ret
    exact ⟨by first | rfl | (rw [h1]; rfl), B2.out⟩
  · have h1 : decide (depthP l ≤ 100) = false := decide_eq_false hd
    go_enter Tryz.func32, Tryz.ntmps32
    go_wp2_with fail
    go_at_call 23
    refine (Depth_any S l _ _ HR.out).mono ?_
    rintro e W1 ⟨rfl, hb⟩
    have B1 := Lib.hid hb
    clear hb
    go_wp2_with fail
    go_ret
    exact ⟨by first | rfl | (rw [h1]; rfl), B1.out⟩
end Go.Proofs.YtopbmndjnjnmcaaGreatDoor

/- (S4) -/
/- Package fragment: Check. -/
namespace Go.Proofs.YtopbmndjnjnmcaaGreatDoor
open Go.RowKit Lx

attribute [local go_sem] Oper.semAt_some

theorem flatP_txt {l : List Fr} (h : TxtOk l) : ∀ t ∈ flatP l, t.text.size ≤ maxLen := fun t ht => by
  unfold flatP at ht
  split at ht
  · exact toksP_txt (fsz l + 1) 1 l (Nat.lt_succ_self _) h t ht
  · cases ht

set_option maxRecDepth 100000 in
set_option maxHeartbeats 4000000 in
/-- **Check** -/
theorem fragCheck_any (S : Nat → Prop) (l : List Fr) (ws : List ByteArray) (v vw : Value) (w : World) (he : Env w) (hr : FrRead w S v l) (hw : StrRead w vw ws) (hz : ∀ s ∈ ws, s.size ≤ maxLen) (ht : TxtOk l) :
    Calls Tryz.prog 30 #[v, vw] w fun e W => e = .returned (.int .i64 (checkP l ws : Nat)) ∧ Below w.heap.size w W := by
  have HE := Lib.hid he
  have HR := Lib.hid hr
  have HW := Lib.hid hw
  have HZ := Lib.hid hz
  have HT := Lib.hid (flatP_txt ht)
  obtain ⟨a, c, _, _, rfl, _⟩ := hr
  obtain ⟨wa, wc, rfl, _⟩ := hw
  obtain ⟨res, hres⟩ : ∃ res, checkP l ws = res := ⟨_, rfl⟩
  rw [hres]
  have HRS := Lib.hid hres
  unfold checkP at hres
  clear he hz ht
  cases hok : okWords ws
  · obtain rfl : 1 = res := by rw [← hres, hok]; rfl
    have HOK := Lib.hid hok
    clear hres hok
    go_enter Tryz.func30, Tryz.ntmps30
    go_wp2_with fail
    go_at_call 61
    refine (areRight_any _ ws _ HE.out HZ.out HW.out).mono ?_
    rintro e W1 ⟨rfl, hb⟩
    rw [HOK.out]
    have B1 := Lib.hid hb
    clear hb
    go_wp2_with fail
    go_ret
    exact ⟨rfl, B1.out⟩
  · have HOK := Lib.hid hok
    rw [hok] at hres
    simp only [Bool.true_eq_false, if_false] at hres
    clear hok
    by_cases hd : 100 < depthP l
    · obtain rfl : 6 = res := by rw [← hres, if_pos hd]
      have h1 : decide ((depthP l : Int) > 100) = true := decide_eq_true (by omega)
      clear hres
      go_enter Tryz.func30, Tryz.ntmps30
      go_wp2_with fail
      go_at_call 61
      refine (areRight_any _ ws _ HE.out HZ.out HW.out).mono ?_
      rintro e W1 ⟨rfl, hb⟩
      rw [HOK.out]
      have B1 := Lib.hid hb
      clear hb
      go_wp2_with fail
      go_at_call 23
      refine (Depth_any S l _ _ (HR.out.bl B1.out)).mono ?_
      rintro e W2 ⟨rfl, hb⟩
      have B2 := Lib.hid (B1.out.trans (hb.mono B1.out.size))
      clear hb
      go_wp2_with fail
      go_ret
      exact ⟨rfl, B2.out⟩
    · rw [if_neg hd] at hres
      have h1 : decide ((depthP l : Int) > 100) = false := decide_eq_false (by omega)
      by_cases hs : 6000 < sizeP l
      · obtain rfl : 2 = res := by rw [← hres, if_pos hs]
        have h2 : decide ((sizeP l : Int) > 6000) = true := decide_eq_true (by omega)
        clear hres
        go_enter Tryz.func30, Tryz.ntmps30
        go_wp2_with fail
        go_at_call 61
        refine (areRight_any _ ws _ HE.out HZ.out HW.out).mono ?_
        rintro e W1 ⟨rfl, hb⟩
        rw [HOK.out]
        have B1 := Lib.hid hb
        clear hb
        go_wp2_with fail
        go_at_call 23
        refine (Depth_any S l _ _ (HR.out.bl B1.out)).mono ?_
        rintro e W2 ⟨rfl, hb⟩
        have B2 := Lib.hid (B1.out.trans (hb.mono B1.out.size))
        clear hb
        go_wp2_with fail
        go_at_call 21
        refine (size_any S l _ _ (HR.out.bl B2.out)).mono ?_
        rintro e W3 ⟨rfl, hb⟩
        have B3 := Lib.hid (B2.out.trans (hb.mono B2.out.size))
        clear hb
        go_wp2_with fail
        go_ret
        exact ⟨rfl, B3.out⟩
      · rw [if_neg hs] at hres
        have h2 : decide ((sizeP l : Int) > 6000) = false := decide_eq_false (by omega)
        have HRE := Lib.hid hres
        clear hres
        go_enter Tryz.func30, Tryz.ntmps30
        go_wp2_with fail
        go_at_call 61
        refine (areRight_any _ ws _ HE.out HZ.out HW.out).mono ?_
        rintro e W1 ⟨rfl, hb⟩
        rw [HOK.out]
        have B1 := Lib.hid hb
        clear hb
        go_wp2_with fail
        go_at_call 23
        refine (Depth_any S l _ _ (HR.out.bl B1.out)).mono ?_
        rintro e W2 ⟨rfl, hb⟩
        have B2 := Lib.hid (B1.out.trans (hb.mono B1.out.size))
        clear hb
        go_wp2_with fail
        go_at_call 21
        refine (size_any S l _ _ (HR.out.bl B2.out)).mono ?_
        rintro e W3 ⟨rfl, hb⟩
        have B3 := Lib.hid (B2.out.trans (hb.mono B2.out.size))
        clear hb
        go_wp2_with fail
        go_at_call 28
        refine (flat_any S l _ _ (HR.out.bl B3.out)).mono ?_
        rintro e W4 ⟨ta, tn, tc, rfl, htr, _, hb⟩
        have B4 := Lib.hid (B3.out.trans (hb.mono B3.out.size))
        have HTR := Lib.hid htr
        clear hb htr
        go_wp2_with fail
        go_at_call 15
        refine (fragRead_any (flatP l) ws _ _ _ HTR.out (HW.out.bl B4.out) (HE.out.below B4.out) HZ.out HT.out).mono ?_
        rintro e W5 hend
        cases hpr : pRead (flatP l) ws with
        | bad er i =>
          obtain ⟨hb, rfl⟩ := read_bad hend hpr
          have hne := pRead_ne HT.out hpr
          have B5 := Lib.hid (B4.out.trans (hb.mono B4.out.size))
          obtain rfl : 22 = res := by rw [← HRE.out, hpr]
          have h3 : ((er : Int) != 0) = true := by simp; omega
          clear hend hb hpr hne
          go_wp2_with fail
          go_ret
          exact ⟨rfl, B5.out⟩
        | ok l2 =>
          obtain ⟨hb, va, ca, rfl, hfr⟩ := read_ok hend hpr
          have B5 := Lib.hid (B4.out.trans (hb.mono B4.out.size))
          have HFR := Lib.hid hfr
          have hre2 := HRE.out
          rw [hpr] at hre2
          simp only at hre2
          have HRE2 := Lib.hid hre2
          clear hend hb hpr hfr hre2
          go_wp2_with fail
          go_at_call 32
          refine (Same_any (fun _ => True) S l2 l _ _ _ HFR.out (HR.out.bl B5.out)).mono ?_
          rintro e W6 ⟨rfl, hb⟩
          have B6 := Lib.hid (B5.out.trans (hb.mono B5.out.size))
          clear hb
          cases hsm : sameP l2 l
          · obtain rfl : 22 = res := by rw [← HRE2.out, hsm]; rfl
            clear hsm
            go_wp2_with fail
            go_ret
            exact ⟨rfl, B6.out⟩
          · obtain rfl : 0 = res := by rw [← HRE2.out, hsm]; rfl
            clear hsm
            go_wp2_with fail
            go_ret
            exact ⟨rfl, B6.out⟩
end Go.Proofs.YtopbmndjnjnmcaaGreatDoor
