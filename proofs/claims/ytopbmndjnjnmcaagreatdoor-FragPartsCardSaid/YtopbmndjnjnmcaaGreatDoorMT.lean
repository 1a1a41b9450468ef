/- Package fragment: readable lists as the law's loop sees them; opened; the walk of FragMatched. -/
import Derived.Test.YtopbmndjnjnmcaaGreatDoorMS
import Derived.Test.YtopbmndjnjnmcaaGreatDoorG10
import Derived.Deep.RegionHeld3
/- (P8body) -/
namespace Go.Proofs.YtopbmndjnjnmcaaGreatDoor
open Go.RowKit Lx
/-- The texts of groups are their openings. -/
def opTxt : List Fr → Prop
  | [] => True
  | .mk t op ks :: r => (op.toList ≠ [] → t.text.toList = op.toList) ∧ opTxt ks ∧ opTxt r
theorem opTxt_cons (f : Fr) (r : List Fr) : opTxt (f :: r) ↔ (f.op.toList ≠ [] → f.tok.text.toList = f.op.toList) ∧ opTxt f.kids ∧ opTxt r := by
  cases f; rw [opTxt]; rfl
theorem opTxt_app : ∀ (a b : List Fr), opTxt a → opTxt b → opTxt (a ++ b)
  | [], b, _, h => h
  | f :: a, b, h, hb => by
    obtain ⟨h1, h2, h3⟩ := (opTxt_cons f a).1 h
    rw [List.cons_append]
    exact (opTxt_cons f (a ++ b)).2 ⟨h1, h2, opTxt_app a b h3 hb⟩
theorem nil_toList : (⟨#[]⟩ : ByteArray).toList = [] := by decide +kernel
theorem opTxt_alike : ∀ (n : Nat) (l l2 : List Fr), fsz l < n → alikeF true l l2 = true → opTxt l → opTxt l2
  | 0, _, _, h, _, _ => absurd h (Nat.not_lt_zero _)
  | n + 1, [], l2, _, h, _ => by
    cases l2 with
    | nil => rw [opTxt]; trivial
    | cons g r => rw [alikeF_len true [] (g :: r) (by simp)] at h; cases h
  | n + 1, f :: r, l2, hn, h, ho => by
    cases l2 with
    | nil => rw [alikeF_len true (f :: r) [] (by simp)] at h; cases h
    | cons g r2 =>
      rw [alikeF_cons] at h
      simp only [Bool.and_eq_true] at h
      obtain ⟨h1, h2, h3, h4⟩ := h
      obtain ⟨o1, o2, o3⟩ := (opTxt_cons f r).1 ho
      rw [fsz_cons] at hn
      have e2 : f.op.toList = g.op.toList := by simpa using h2
      have e1 : f.tok.text.toList = g.tok.text.toList := by
        unfold alikeT at h1
        simp at h1
        exact h1.2.2
      exact (opTxt_cons g r2).2 ⟨by rw [← e1, ← e2]; exact o1, opTxt_alike n f.kids g.kids (by omega) h3 o2, opTxt_alike n r r2 (by omega) h4 o3⟩
def OpI (s : Rst) : Prop := ∀ g ∈ s.g :: s.stk, opTxt g.kids ∧ (g.op.toList ≠ [] → g.tok.text.toList = g.op.toList)
section
variable {ts : List Tok} {ws : List ByteArray}
theorem OpI.same {s s' : Rst} (h : OpI s) (h1 : s'.g = s.g) (h2 : s'.stk = s.stk) : OpI s' := by unfold OpI; rw [h1, h2]; exact h
theorem pEnd_opi {s s' : Rst} (h : pEnd ts s = .ok s') (hs : OpI s) : OpI s' := by
  unfold pEnd at h
  split at h
  · rename_i g2 rest t hk ht
    split at h
    · cases h
    · cases h
      unfold OpI at hs ⊢
      rw [hk] at hs
      intro g hg
      rcases List.mem_cons.1 hg with rfl | hg
      · obtain ⟨a1, a2⟩ := hs g2 (List.mem_cons_of_mem _ List.mem_cons_self)
        obtain ⟨b1, b2⟩ := hs s.g List.mem_cons_self
        exact ⟨opTxt_app _ _ a1 ((opTxt_cons _ _).2 ⟨b2, b1, by rw [opTxt]; trivial⟩), a2⟩
      · exact hs g (List.mem_cons_of_mem _ (List.mem_cons_of_mem _ hg))
  · cases h
theorem pTake_opi {s s' : Rst} (h : pTake ts ws s = .ok s') (hs : OpI s) : OpI s' := by
  unfold pTake at h
  split at h
  · cases h
  · rename_i t htt
    split at h
    · split at h
      · cases h
      · exact pEnd_opi h hs
      · unfold pNamed at h
        split at h
        · cases h
        · rename_i s1 he
          have h1 := pEnd_opi he hs
          split at h
          · obtain ⟨a, b, _⟩ := pDrop_same h; exact h1.same a b
          · cases h; exact h1
    · split at h
      · split at h
        · cases h
        · cases h
          intro g hg
          rcases List.mem_cons.1 hg with rfl | hg
          · exact ⟨by rw [opTxt]; trivial, fun _ => rfl⟩
          · exact hs g hg
      · cases h
        intro g hg
        rcases List.mem_cons.1 hg with rfl | hg
        · obtain ⟨a1, a2⟩ := hs s.g List.mem_cons_self
          exact ⟨opTxt_app _ _ a1 ((opTxt_cons _ _).2 ⟨fun h => absurd nil_toList h, by rw [show (Fr.mk t ⟨#[]⟩ []).kids = [] from rfl, opTxt]; trivial, by rw [opTxt]; trivial⟩), a2⟩
        · exact hs g (List.mem_cons_of_mem _ hg)
theorem pGo_opi : ∀ {n : Nat} {s s' : Rst}, pGo ts ws n s = .ok s' → OpI s → OpI s'
  | 0, _, _, h, hs => by cases h; exact hs
  | n + 1, s, s', h, hs => by
    simp only [pGo] at h
    split at h
    · split at h
      · split at h
        · cases h
        · rename_i s1 hp
          exact pGo_opi h ((pTake_opi hp hs).same rfl rfl)
      · cases h
    · cases h; exact hs
theorem pRead_opTxt {l : List Fr} (h : pRead ts ws = .ok l) : opTxt l := by
  unfold pRead at h
  split at h
  · cases h
  · split at h
    · cases h
    · unfold pRead0 at h
      split at h
      · cases h
      · rename_i s hg
        split at h
        · cases h
          refine (pGo_opi hg ?_ s.g List.mem_cons_self).1
          intro g hg
          rcases List.mem_cons.1 hg with rfl | hg
          · exact ⟨by rw [show st0.g.kids = [] from rfl, opTxt]; trivial, fun h => absurd nil_toList h⟩
          · cases hg
        · cases h
end
theorem check_opTxt {l : List Fr} {ws : List ByteArray} (h : checkP l ws = 0) : opTxt l := by
  obtain ⟨_, _, _, _, l2, h1, h2⟩ := checkP_ok.1 h
  unfold sameP at h2
  simp only [Bool.and_eq_true] at h2
  exact opTxt_alike (fsz l2 + 1) l2 l (Nat.lt_succ_self _) h2.2 (pRead_opTxt h1)

/-- How deep groups are. -/
def dep : List Fr → Nat
  | [] => 0
  | .mk _ op ks :: r => max (if op.toList = [] then 0 else 1 + dep ks) (dep r)
theorem dep_cons (f : Fr) (r : List Fr) : dep (f :: r) = max (if f.op.toList = [] then 0 else 1 + dep f.kids) (dep r) := by
  cases f; rw [dep]; rfl
theorem depF_dep : ∀ (n : Nat) (l : List Fr) (most acc : Nat), fsz l < n → acc ≤ most → depF most l acc = min most (max acc (dep l))
  | 0, _, _, _, h, _ => absurd h (Nat.not_lt_zero _)
  | n + 1, [], most, acc, _, ha => by rw [depF, dep]; omega
  | n + 1, f :: r, most, acc, hn, ha => by
    rw [fsz_cons] at hn
    rw [depF_cons, dep_cons]
    by_cases h : acc = most
    · rw [if_pos h]; omega
    · rw [if_neg h]
      by_cases ho : f.op.toList = []
      · rw [if_pos ho, if_pos ho, depF_dep n r most acc (by omega) ha]
        omega
      · rw [if_neg ho, if_neg ho, depF_dep n f.kids (most - 1) 0 (by omega) (Nat.zero_le _), depF_dep n r most _ (by omega) (by omega)]
        omega
theorem depthP_dep (l : List Fr) : depthP l = min 101 (dep l) := by
  unfold depthP
  rw [depF_dep (fsz l + 1) l 101 0 (Nat.lt_succ_self _) (Nat.zero_le _)]
  omega

/-- The depth behind each token, and its text. -/
def prs : List Fr → Nat → List (List UInt8 × Nat)
  | [], _ => []
  | .mk t op ks :: r, d => (if op.toList = [] then [(t.text.toList, d)] else (t.text.toList, d + 1) :: (prs ks (d + 1) ++ [((closeTok t op).text.toList, d)])) ++ prs r d
def prF (f : Fr) (d : Nat) : List (List UInt8 × Nat) := if f.op.toList = [] then [(f.tok.text.toList, d)] else (f.tok.text.toList, d + 1) :: (prs f.kids (d + 1) ++ [((closeTok f.tok f.op).text.toList, d)])
theorem prs_cons (f : Fr) (r : List Fr) (d : Nat) : prs (f :: r) d = prF f d ++ prs r d := by cases f; rw [prs]; rfl
def deeps (l : List Fr) (d : Nat) : List Nat := (prs l d).map (·.2)
theorem prs_toks : ∀ (n : Nat) (l : List Fr) (d d' : Nat), fsz l < n → d + dep l ≤ 101 → (prs l d').map (·.1) = (toksP d l).map (fun t => t.text.toList)
  | 0, _, _, _, h, _ => absurd h (Nat.not_lt_zero _)
  | n + 1, [], d, d', _, _ => by rw [prs, toksP]; rfl
  | n + 1, f :: r, d, d', hn, hd => by
    rw [fsz_cons] at hn
    rw [dep_cons] at hd
    rw [prs_cons, toksP_cons, List.map_append, List.map_append, prs_toks n r d d' (by omega) (by omega)]
    congr 1
    unfold prF tokF
    by_cases ho : f.op.toList = []
    · rw [if_pos ho, if_pos ho]; rfl
    · rw [if_neg ho] at hd
      rw [if_neg ho, if_neg ho, if_pos (by omega)]
      simp only [List.map_cons, List.map_append, List.map_nil]
      rw [prs_toks n f.kids (d + 1) (d' + 1) (by omega) (by omega)]

/-- Whether a closing text fits an opening one. -/
def closesT (y x : List UInt8) : Bool :=
  !(((y != [40] && (y != [91] && y != [123])) != (x == [101, 110, 100])) || ((y == [40] && x != [41]) || ((y == [91] && x != [93]) || (y == [123] && x != [125]))))
/-- The law's loop: the depth before, the open texts, the greatest depth. -/
def simM (M : Nat) : List (List UInt8 × Nat) → Nat → List (List UInt8) → Nat → Bool
  | [], _, os, mo => os.isEmpty && mo == M
  | (x, d) :: r, b, os, mo =>
    if b < d then simM M r d (os ++ [x]) (max mo d)
    else if d < b then (match os.getLast? with | none => false | some y => closesT y x && simM M r d os.dropLast (max mo d))
    else simM M r d os (max mo d)
theorem closeTok_fits (t : Tok) (op : ByteArray) : closesT op.toList (closeTok t op).text.toList = true := by
  unfold closeTok
  have e1 : (bs1 41).toList = [41] := by decide +kernel
  have e2 : (bs1 93).toList = [93] := by decide +kernel
  have e3 : (bs1 125).toList = [125] := by decide +kernel
  have e4 : tEnd.toList = [101, 110, 100] := by decide +kernel
  cases h1 : (op.toList == [40])
  · cases h2 : (op.toList == [91])
    · cases h3 : (op.toList == [123])
      · simp only [Bool.false_eq_true, if_false]
        rw [e4]
        unfold closesT
        have g1 : (op.toList != [40]) = true := by simp [bne, h1]
        have g2 : (op.toList != [91]) = true := by simp [bne, h2]
        have g3 : (op.toList != [123]) = true := by simp [bne, h3]
        rw [h1, h2, h3, g1, g2, g3]
        decide
      · simp only [Bool.false_eq_true, if_false, if_true]
        rw [e3, eq_of_beq h3]
        decide
    · simp only [Bool.false_eq_true, if_false, if_true]
      rw [e2, eq_of_beq h2]
      decide
  · simp only [if_true]
    rw [e1, eq_of_beq h1]
    decide
theorem sim_prs (M : Nat) : ∀ (n : Nat) (l : List Fr) (d : Nat) (os : List (List UInt8)) (mo : Nat) (rest : List (List UInt8 × Nat)), fsz l < n → opTxt l → d ≤ mo →
    simM M (prs l d ++ rest) d os mo = simM M rest d os (max mo (d + dep l))
  | 0, _, _, _, _, _, h, _, _ => absurd h (Nat.not_lt_zero _)
  | n + 1, [], d, os, mo, rest, _, _, hm => by
    rw [prs, dep, List.nil_append, Nat.max_eq_left (by omega)]
  | n + 1, f :: r, d, os, mo, rest, hn, ho, hm => by
    obtain ⟨o1, o2, o3⟩ := (opTxt_cons f r).1 ho
    rw [fsz_cons] at hn
    rw [prs_cons, dep_cons, List.append_assoc]
    unfold prF
    by_cases hop : f.op.toList = []
    · rw [if_pos hop, if_pos hop]
      simp only [List.cons_append, List.nil_append, simM]
      rw [if_neg (by omega), if_neg (by omega), sim_prs M n r d os _ rest (by omega) o3 (by omega)]
      congr 1
      omega
    · rw [if_neg hop, if_neg hop]
      simp only [List.cons_append, List.append_assoc, List.nil_append, simM]
      rw [if_pos (by omega), sim_prs M n f.kids (d + 1) _ _ _ (by omega) o2 (by omega)]
      simp only [simM]
      rw [if_neg (by omega), if_pos (by omega)]
      simp only [List.getLast?_append, List.getLast?_singleton, Option.some_or, List.dropLast_concat]
      rw [o1 hop, closeTok_fits, Bool.true_and, sim_prs M n r d os _ rest (by omega) o3 (by omega)]
      congr 1
      omega
theorem sim_all {l : List Fr} (h : opTxt l) : simM (dep l) (prs l 0) 0 [] 0 = true := by
  have := sim_prs (dep l) (fsz l + 1) l 0 [] 0 [] (Nat.lt_succ_self _) h (Nat.le_refl _)
  rw [List.append_nil] at this
  rw [this, simM]
  simp

/-- What a readable list is for the law's loop. -/
theorem check_prs {l : List Fr} {ws : List ByteArray} (h : checkP l ws = 0) : simM (depthP l) (prs l 0) 0 [] 0 = true ∧ (prs l 0).map (·.1) = (flatP l).map (fun t => t.text.toList) ∧ sizeP l = (flatP l).length ∧ (flatP l).length ≤ 6000 ∧ (prs l 0).length = (flatP l).length := by
  obtain ⟨_, h2, h3, h4, _⟩ := checkP_ok.1 h
  have hd := depthP_dep l
  have e : depthP l = dep l := by omega
  have hp := prs_toks (fsz l + 1) l 1 0 (Nat.lt_succ_self _) (by omega)
  have hs : sizeP l = (toksP 1 l).length := by unfold sizeP at h3 ⊢; omega
  rw [h4]
  exact ⟨by rw [e]; exact sim_all (check_opTxt h), hp, hs, by omega, by have := congrArg List.length hp; simpa using this⟩
theorem closesT_end {y x : List UInt8} (h1 : (y == [40]) = false) (h2 : (y == [91]) = false) (h3 : (y == [123]) = false) (h : closesT y x = true) : (x == [101, 110, 100]) = true := by
  unfold closesT at h
  have g1 : (y != [40]) = true := by simp [bne, h1]
  have g2 : (y != [91]) = true := by simp [bne, h2]
  have g3 : (y != [123]) = true := by simp [bne, h3]
  rw [h1, h2, h3, g1, g2, g3] at h
  cases hx : (x == [101, 110, 100])
  · rw [hx] at h; simp at h
  · rfl
theorem closesT_sign {y x : List UInt8} {a b : UInt8} (hy : (y == [a]) = true) (hab : (a = 40 ∧ b = 41) ∨ (a = 91 ∧ b = 93) ∨ (a = 123 ∧ b = 125)) (h : closesT y x = true) : (x == [101, 110, 100]) = false ∧ (x == [b]) = true := by
  obtain rfl := eq_of_beq hy
  unfold closesT at h
  rcases hab with ⟨rfl, rfl⟩ | ⟨rfl, rfl⟩ | ⟨rfl, rfl⟩
  all_goals
    simp at h
    refine ⟨?_, ?_⟩
    · cases hx : (x == [101, 110, 100])
      · rfl
      · exact absurd (eq_of_beq hx) h.1
    · simp [h.2]
theorem prs_le : ∀ (n : Nat) (l : List Fr) (d0 : Nat), fsz l < n → ∀ p ∈ prs l d0, p.2 ≤ d0 + dep l
  | 0, _, _, h, _, _ => absurd h (Nat.not_lt_zero _)
  | n + 1, [], d0, _, p, hp => by simp [prs] at hp
  | n + 1, f :: r, d0, hn, p, hp => by
    rw [fsz_cons] at hn
    rw [dep_cons]
    rw [prs_cons] at hp
    rcases List.mem_append.1 hp with hp | hp
    · unfold prF at hp
      by_cases ho : f.op.toList = []
      · rw [if_pos ho] at hp
        obtain rfl := List.mem_singleton.1 hp
        simp only; omega
      · rw [if_neg ho] at hp
        rw [if_neg ho]
        rcases List.mem_cons.1 hp with rfl | hp
        · simp only; omega
        · rcases List.mem_append.1 hp with hp | hp
          · have := prs_le n f.kids (d0 + 1) (by omega) p hp; omega
          · obtain rfl := List.mem_singleton.1 hp
            simp only; omega
    · have := prs_le n r d0 (by omega) p hp; omega
theorem check_deeps {l : List Fr} {ws : List ByteArray} (h : checkP l ws = 0) {j d : Nat} (hj : (deeps l 0)[j]? = some d) : d ≤ 100 := by
  obtain ⟨_, h2, _⟩ := checkP_ok.1 h
  have hd := depthP_dep l
  unfold deeps at hj
  rw [List.getElem?_map, Option.map_eq_some_iff] at hj
  obtain ⟨p, hp, rfl⟩ := hj
  have := prs_le (fsz l + 1) l 0 (Nat.lt_succ_self _) p (List.mem_of_getElem? hp)
  omega
end Go.Proofs.YtopbmndjnjnmcaaGreatDoor
/- (W2body) -/
namespace Go.Proofs.YtopbmndjnjnmcaaGreatDoor
open Go.RowKit Lx
attribute [local go_sem] Oper.semAt_some

def intC (l : List Nat) : List Value := l.map fun d => .int .i64 (d : Nat)
theorem intC_len (l : List Nat) : (intC l).length = l.length := List.length_map _
theorem intC_app (a b : List Nat) : intC (a ++ b) = intC a ++ intC b := List.map_append
theorem info3z : (Tryz.prog.info? 3).map (fun i => (i.zero, i.size, i.bytes)) = some (some (.int .i64 0), 1, 8) := by kernel_rfl
/-- A list that a call owns has become another one. -/
def GrowV (w W : World) (ov ov' : Value) : Prop := w.grownBy W ov.ownBlock ∧ ∀ g, ov'.ownBlock = some g → ov.ownBlock = some g ∨ w.heap.size ≤ g
theorem GrowV.refl (w : World) (v : Value) : GrowV w w v v := ⟨grown_bl (Below.refl _ _) _, fun _ h => .inl h⟩
theorem GrowV.trans {a b c : World} {u v x : Value} (h : GrowV a b u v) (k : GrowV b c v x) : GrowV a c u x := by
  refine ⟨⟨k.1.os.trans h.1.os, k.1.tape.trans h.1.tape, k.1.output.trans h.1.output, Nat.le_trans h.1.size k.1.size, fun i hi hr => ?_⟩, fun g hg => ?_⟩
  · refine (k.1.block i (Nat.lt_of_lt_of_le hi h.1.size) fun e => ?_).trans (h.1.block i hi hr)
    rcases h.2 i e.symm with h2 | h2
    · exact hr h2.symm
    · omega
  · rcases k.2 g hg with h2 | h2
    · exact h.2 g h2
    · exact .inr (Nat.le_trans h.1.size h2)
theorem GrowV.bl {a b : World} (v : Value) (h : Below a.heap.size a b) : GrowV a b v v := ⟨grown_bl h _, fun _ hg => .inl hg⟩
theorem GrowV.low {w W : World} {ov ov' : Value} {base n : Nat} {xs : List Value} {e : TypeId} {size : Nat} (h : GrowV w W ov ov') (ho : w.ownsRow base e size ov n xs) {b : Nat} (hb : b < base) (hw : b < w.heap.size) : W.heap[b]? = w.heap[b]? :=
  h.1.block b hw fun e' => by have := own_base ho e'.symm; omega
theorem GrowV.below {w W : World} {ov ov' : Value} {base n : Nat} {xs : List Value} {e : TypeId} {size : Nat} (h : GrowV w W ov ov') (ho : w.ownsRow base e size ov n xs) (hb : base ≤ w.heap.size) : Below base w W :=
  (Below.refl base w).grown h.1 hb (fun _ e' => own_base ho e')
theorem growA {W W' w10 : World} {ov : Value} {g m cap H : Nat} (hb : Below W.heap.size W W') (hgrow : W'.grownBy w10 ov.ownBlock) (hat : ov.ownBlock = some g ∨ g = H) (hH : W.heap.size ≤ H) : GrowV W w10 ov (.slice (some ⟨g, 0, none⟩) m cap) := by
  refine ⟨(GrowV.trans (GrowV.bl ov hb) (⟨hgrow, fun _ h => .inl h⟩ : GrowV W' w10 ov ov)).1, fun j hj => ?_⟩
  obtain rfl : g = j := by simpa [Value.ownBlock] using hj
  rcases hat with h | h
  · exact .inl h
  · exact .inr (by omega)
theorem alloc2_old (w : World) (a b : Obj) : ((w.alloc a).alloc b).heap[w.heap.size]? = some a := (Below.heap_alloc _ b _ (by rw [World.size_alloc]; omega)).trans (heap_alloc_new w a)
theorem alloc2_new (w : World) (a b : Obj) : ((w.alloc a).alloc b).heap[w.heap.size + 1]? = some b := by
  have := heap_alloc_new (w.alloc a) b
  rwa [World.size_alloc] at this
theorem own_snoc {W : World} {base N d : Nat} {v : Value} {Z : List Nat} (hN : Z.length = N) (h : W.ownsRow base 3 1 v (N + 1) (intC Z ++ [.int .i64 ((d : Int) + 1)])) : W.ownsRow base 3 1 v (Z ++ [d + 1]).length (intC (Z ++ [d + 1])) := by
  rw [intC_app, List.length_append, hN]; exact h
theorem own_last {W : World} {base d M : Nat} {v : Value} {Z A : List Nat} {x : List UInt8} (hM : (Z ++ [d + 1] ++ A).length = M) (h : W.ownsRow base 3 1 v (M + 1) (intC (Z ++ [d + 1] ++ A) ++ [.int .i64 (d : Int)])) : W.ownsRow base 3 1 v (Z ++ (d + 1) :: (A ++ [(x, d)].map (·.2))).length (intC (Z ++ (d + 1) :: (A ++ [(x, d)].map (·.2)))) := by
  have e : Z ++ (d + 1) :: (A ++ [(x, d)].map (·.2)) = Z ++ [d + 1] ++ A ++ [d] := by simp
  rw [e, intC_app, List.length_append, hM]
  exact h
theorem own_lt {W : World} {base e size n : Nat} {v : Value} {xs : List Value} (h : W.ownsRow base e size v n xs) {g : Nat} (hg : v.ownBlock = some g) : g < W.heap.size := by
  obtain ⟨_, cs, hcs⟩ := owned_cells h hg
  exact (Array.getElem?_eq_some_iff.1 hcs).1
theorem nb_keep {w W' w10 : World} {base n B : Nat} {ov : Value} {xs : List Value} {o : Obj} (ho : w.ownsRow base 3 1 ov n xs) (hg : W'.grownBy w10 ov.ownBlock) (hB : w.heap.size ≤ B) (hb : W'.heap[B]? = some o) : w10.heap[B]? = some o :=
  (hg.block B (Array.getElem?_eq_some_iff.1 hb).1 fun e => by have := own_lt ho e.symm; omega).trans hb
theorem nb_keep2 {W' w11 : World} {g1 m c B : Nat} {v2 : Value} {o : Obj} (hg : GrowV W' w11 (.slice (some ⟨g1, 0, none⟩) m c) v2) (hne : g1 ≠ B) (hb : W'.heap[B]? = some o) : w11.heap[B]? = some o :=
  (hg.1.block B (Array.getElem?_eq_some_iff.1 hb).1 fun e => hne (by simpa [Value.ownBlock] using e.symm)).trans hb
theorem g1_ne {w : World} {base n B H g1 : Nat} {ov : Value} {xs : List Value} (ho : w.ownsRow base 3 1 ov n xs) (hat : ov.ownBlock = some g1 ∨ g1 = H) (hB : w.heap.size ≤ B) (hH : B < H) : g1 ≠ B := by
  rcases hat with h | h
  · have := own_lt ho h; omega
  · omega
theorem deeps_take (d : Nat) {l : List Fr} {k : Nat} {f : Fr} (h : l[k]? = some f) : deeps (l.take (k + 1)) d = deeps (l.take k) d ++ (prF f d).map (·.2) := by
  unfold deeps
  rw [List.take_add_one, h, Option.toList_some]
  have : ∀ a b : List Fr, prs (a ++ b) d = prs a d ++ prs b d := fun a b => by
    induction a with
    | nil => simp [prs]
    | cons g r ih => rw [List.cons_append, prs_cons, prs_cons, ih, List.append_assoc]
  rw [this, List.map_append]
  congr 2
  rw [prs_cons, prs, List.append_nil]
theorem prs_app (d : Nat) : ∀ a b : List Fr, prs (a ++ b) d = prs a d ++ prs b d
  | [], b => by simp [prs]
  | g :: r, b => by rw [List.cons_append, prs_cons, prs_cons, prs_app d r b, List.append_assoc]
theorem prs_len_get (d : Nat) {l : List Fr} {k : Nat} {f : Fr} (h : l[k]? = some f) : (prs (l.take k) d).length + (prF f d).length + (prs (l.drop (k + 1)) d).length = (prs l d).length := by
  obtain ⟨h1, h2⟩ := List.getElem?_eq_some_iff.1 h
  have := List.take_append_drop k l
  rw [List.drop_eq_getElem_cons h1, h2] at this
  rw [← congrArg (fun x => (prs x d).length) this]
  simp only [prs_app, prs_cons, List.length_append]
  omega

set_option maxRecDepth 100000 in
set_option maxHeartbeats 16000000 in
/-- **opened** -/
theorem opened_any (base : Nat) : ∀ (n : Nat) (l : List Fr) (d : Nat) (xs : List Nat) (oa : Option Addr) (on oc : Nat) (v : Value) (w : World), fsz l < n → xs.length + (prs l d).length ≤ 7000 → d + (prs l d).length ≤ 8000 → base ≤ w.heap.size →
    FrRead w (fun b => b < base) v l → w.ownsRow base 3 1 (.slice oa on oc) xs.length (intC xs) →
    Calls Tryz.prog 43 #[.slice oa on oc, v, .int .i64 d] w fun e W => ∃ a n c, e = .returned (.slice a n c) ∧ W.ownsRow base 3 1 (.slice a n c) (xs ++ deeps l d).length (intC (xs ++ deeps l d)) ∧ GrowV w W (.slice oa on oc) (.slice a n c) := by
  intro n
  induction n with
  | zero => intro l d xs oa on oc v w h; omega
  | succ n ih =>
    intro l d xs oa on oc v w hn hxl hdl hbs hr ho
    have HO := Lib.hid ho
    obtain ⟨va, vc, vg, vo, rfl, ⟨hm1, hm2⟩, ha, hat⟩ := hr
    have HAT := Lib.hid hat
    have HA := Lib.hid ha
    have IH := Lib.hid ih
    obtain ⟨i0, hi0, hz0, hz1, hz2⟩ := info_parts info3z
    unfold maxLen at hm1
    clear ho hat ha ih
    go_enter Tryz.func43, Tryz.ntmps43
    go_wp2_with fail
    go_loopw [0, 7] (fun y x wr => ∃ (k : Nat), k ≤ l.length ∧ x = .int .i64 k ∧ (∃ a n c, y = .slice a n c) ∧ Hid (wr.ownsRow base 3 1 y (xs ++ deeps (l.take k) d).length (intC (xs ++ deeps (l.take k) d))) ∧ Hid (GrowV w wr (.slice oa on oc) y)) (fun _ x _ => l.length - (intOf x).toNat)
    case atStart => exact ⟨0, by omega, rfl, ⟨_, _, _, rfl⟩, Lib.hid (by simpa [deeps, prs] using HO.out), Lib.hid (GrowV.refl _ _)⟩
    case round =>
      obtain ⟨k, hk, rfl, ⟨ya, yn, yc, rfl⟩, HW, HG⟩ := hrel
      obtain ⟨N, hN⟩ : ∃ N, (xs ++ deeps (l.take k) d).length = N := ⟨_, rfl⟩
      rw [hN] at HW
      have hN2 : xs.length + (deeps (l.take k) d).length = N := by rw [← hN, List.length_append]
      have HN := Lib.hid hN
      clear hN
      by_cases hlt : k < l.length
      · obtain ⟨f, hf⟩ : ∃ f, l[k]? = some f := ⟨_, List.getElem?_eq_getElem hlt⟩
        have hva : va = some ⟨vg, vo, none⟩ := HA.out (by intro h; rw [h] at hlt; simp at hlt)
        subst hva
        obtain ⟨kv, hs, hg, c0, c1, c2, c3, c4, c5, c6, hkr⟩ := HAT.out.get hf
        obtain ⟨ka, kc, hkv⟩ : ∃ a c, kv = .slice a f.kids.length c := by obtain ⟨a, c, _, _, h, _⟩ := hkr; exact ⟨a, c, h⟩
        subst hkv
        have hbl := HG.out.below HO.out hbs
        have m5 := (hbl.cell (p := ⟨vg, vo + k * 7 + 5, none⟩) hs).trans c5
        have m6 := (hbl.cell (p := ⟨vg, vo + k * 7 + 6, none⟩) hs).trans c6
        have HF := Lib.hid hf
        have HKR := Lib.hid (hkr.keep (W' := wr) (S' := fun b => b < base) fun b hb hlt => ⟨hbl.block b hb, hb⟩)
        have hsz := hbl.size
        have hfn : fsz f.kids < n := by have := fsz_kids hf; omega
        have hpl := prs_len_get d hf
        have hdt := deeps_take d hf
        have HDT := Lib.hid hdt
        have HBL := Lib.hid hbl
        have k1 : (k : Int) < (l.length : Int) := by omega
        have hdl2 : (deeps (l.take k) d).length = (prs (l.take k) d).length := List.length_map _
        have hq1 : N + (prF f d).length ≤ 7000 := by omega
        have hq2 : d + (prF f d).length ≤ 8000 := by omega
        have hvl : vg < wr.heap.size := by omega
        clear c0 c1 c2 c3 c4 c5 c6 hkr hf hdt hbl hg hpl hdl2 hN2
        cases e1 : (f.op.toList == [])
        · have e2 : f.op.toList.isEmpty = false := by rw [← e1]; cases f.op.toList <;> rfl
          have hop : ¬ f.op.toList = [] := by intro h; rw [h] at e1; simp at e1
          have hpf : prF f d = (f.tok.text.toList, d + 1) :: (prs f.kids (d + 1) ++ [((closeTok f.tok f.op).text.toList, d)]) := by unfold prF; rw [if_neg hop]
          have hpfl : (prF f d).length = (prs f.kids (d + 1)).length + 2 := by rw [hpf]; simp
          have HPF := Lib.hid hpf
          have hq3 : N + (prs f.kids (d + 1)).length + 2 ≤ 7000 := by omega
          have hq4 : d + (prs f.kids (d + 1)).length + 2 ≤ 8000 := by omega
          have hw1 : IntKind.i64.wrap ((d : Int) + 1) = ((d + 1 : Nat) : Int) := by rw [IntWalk.i64_in _ (by omega)]; omega
          have HZ2 : Hid ((xs ++ deeps (l.take k) d ++ [d + 1] ++ deeps f.kids (d + 1)).length = N + 1 + (prs f.kids (d + 1)).length) := Lib.hid (by rw [List.length_append, List.length_append, HN.out, show (deeps f.kids (d + 1)).length = (prs f.kids (d + 1)).length from List.length_map _]; rfl)
          clear hop hpf hpfl
          go_upto_region 6 with fail
          go_region_held3 (fun w' => w'.cell? ⟨vg, vo + k * 7 + 6, none⟩ = some (.slice ka f.kids.length kc)) (first | exact z6 | exact z7 | exact z8 | go_keep)
            (first
              | ((refine step_append_lies _ (by rfl) (.tmp 24) (.tmp 27) 48 (by rfl) base 3 i0 _ 1 8 Tryz.underlying48 hi0 hz0 hz1 hz2 rfl (by omega) (.slice ya yn yc) N _ (by rfl) ((HW.out.alloc _).drew) ⟨wr.heap.size, 0, none⟩ 1 1 [.int .i64 ((d : Int) + 1)] (by rfl) (by rfl) (World.news_of_block (cs := #[.int .i64 ((d : Int) + 1)]) (t := 3) (fr := (0, 0)) (heap_alloc_new wr _)) (by simp [Value.oneCell']) (by omega) (by unfold maxLen; omega) (by omega) (by show base ≤ (wr.alloc _).heap.size; simp only [World.size_alloc]; omega) (wr.heap.size + 1) (World.size_alloc _ _) ?_; intro g1 cap1 w10 hown1 hgrow1 hat1 hgl1; have G1 := growA (m := N + 1) (cap := cap1) (((Below.refl _ wr).alloc (Nat.le_refl _) _).drew) hgrow1 hat1 (by omega); have z6 := (World.cell?_of_block (a := ⟨vg, vo + k * 7 + 6, none⟩) (G1.low HW.out hs hvl)).trans m6; have HO1 := Lib.hid (own_snoc HN.out hown1); have T1 := Lib.hid trivial))
              | ((refine step_append_lies _ (by rfl) (.tmp 24) (.tmp 27) 48 (by rfl) base 3 i0 _ 1 8 Tryz.underlying48 hi0 hz0 hz1 hz2 rfl (by omega) (.slice ya yn yc) N _ (by rfl) (((HW.out.alloc _).alloc _).drew) ⟨wr.heap.size, 0, none⟩ 1 1 [.int .i64 ((d : Int) + 1)] (by rfl) (by rfl) (World.news_of_block (cs := #[.int .i64 ((d : Int) + 1)]) (t := 3) (fr := (0, 0)) (alloc2_old wr _ _)) (by simp [Value.oneCell']) (by omega) (by unfold maxLen; omega) (by omega) (by show base ≤ ((wr.alloc _).alloc _).heap.size; simp only [World.size_alloc]; omega) (wr.heap.size + 2) ((World.size_alloc _ _).trans (congrArg (· + 1) (World.size_alloc _ _))) ?_; intro g1 cap1 w10 hown1 hgrow1 hat1 hgl1; have G1 := growA (m := N + 1) (cap := cap1) ((((Below.refl _ wr).alloc (Nat.le_refl _) _).alloc (by simp only [World.size_alloc]; omega) _).drew) hgrow1 hat1 (by omega); have z6 := (World.cell?_of_block (a := ⟨vg, vo + k * 7 + 6, none⟩) (G1.low HW.out hs hvl)).trans m6; have HO1 := Lib.hid (own_snoc HN.out hown1); have NB := Lib.hid (nb_keep HW.out hgrow1 (Nat.le_succ _) (alloc2_new wr _ _)); have GN := Lib.hid (g1_ne HW.out hat1 (Nat.le_succ wr.heap.size) (Nat.lt_succ_self _))))
              | ((refine step_append_lies _ (by rfl) (.tmp 24) (.tmp 27) 48 (by rfl) base 3 i0 _ 1 8 Tryz.underlying48 hi0 hz0 hz1 hz2 rfl (by omega) (.slice ya yn yc) N _ (by rfl) (((HW.out.alloc _).alloc _).drew) ⟨wr.heap.size + 1, 0, none⟩ 1 1 [.int .i64 ((d : Int) + 1)] (by rfl) (by rfl) (World.news_of_block (cs := #[.int .i64 ((d : Int) + 1)]) (t := 3) (fr := (0, 0)) (alloc2_new wr _ _)) (by simp [Value.oneCell']) (by omega) (by unfold maxLen; omega) (by omega) (by show base ≤ ((wr.alloc _).alloc _).heap.size; simp only [World.size_alloc]; omega) (wr.heap.size + 2) ((World.size_alloc _ _).trans (congrArg (· + 1) (World.size_alloc _ _))) ?_; intro g1 cap1 w10 hown1 hgrow1 hat1 hgl1; have G1 := growA (m := N + 1) (cap := cap1) ((((Below.refl _ wr).alloc (Nat.le_refl _) _).alloc (by simp only [World.size_alloc]; omega) _).drew) hgrow1 hat1 (by omega); have z6 := (World.cell?_of_block (a := ⟨vg, vo + k * 7 + 6, none⟩) (G1.low HW.out hs hvl)).trans m6; have HO1 := Lib.hid (own_snoc HN.out hown1); have NB := Lib.hid (nb_keep HW.out hgrow1 (Nat.le_refl _) (alloc2_old wr _ _)); have GN := Lib.hid (g1_ne HW.out hat1 (Nat.le_refl wr.heap.size) (by omega))))
              | (go_at_call 43; refine (IH.out f.kids (d + 1) (xs ++ deeps (l.take k) d ++ [d + 1]) (some ⟨g1, 0, none⟩) (N + 1) cap1 (.slice ka f.kids.length kc) _ hfn (by rw [List.length_append, HN.out]; simp only [List.length_cons, List.length_nil]; omega) (by omega) (by show base ≤ w10.heap.size; have := G1.1.size; omega) (HKR.out.keep fun b hb hlt => ⟨G1.low HW.out hb hlt, hb⟩) (HO1.out)).mono ?_; rintro e w11 ⟨a11, n11, c11, rfl, hown2, hgr2⟩; obtain ⟨M, hM⟩ : ∃ M, (xs ++ deeps (l.take k) d ++ [d + 1] ++ deeps f.kids (d + 1)).length = M := ⟨_, rfl⟩; rw [hM] at hown2; have HM := Lib.hid hM; have hMb : M + 1 ≤ 7000 := (by have := HZ2.out; omega); clear hM; have G2 := Lib.hid (G1.trans hgr2); have HO2 := Lib.hid hown2; have z7 := (World.cell?_of_block (a := ⟨vg, vo + k * 7 + 6, none⟩) (G2.out.low HW.out hs hvl)).trans m6; have NB2 := Lib.hid (nb_keep2 hgr2 GN.out NB.out); clear hown2 hgr2)
              | (go_at_call 43; refine (IH.out f.kids (d + 1) (xs ++ deeps (l.take k) d ++ [d + 1]) (some ⟨g1, 0, none⟩) (N + 1) cap1 (.slice ka f.kids.length kc) _ hfn (by rw [List.length_append, HN.out]; simp only [List.length_cons, List.length_nil]; omega) (by omega) (by show base ≤ (w10.alloc _).heap.size; have := G1.1.size; simp only [World.size_alloc]; omega) ((HKR.out.keep fun b hb hlt => ⟨G1.low HW.out hb hlt, hb⟩ : FrRead w10 _ _ _).bl ((Below.refl _ w10).alloc (Nat.le_refl _) _)) (HO1.out.alloc _)).mono ?_; rintro e w11 ⟨a11, n11, c11, rfl, hown2, hgr2⟩; obtain ⟨M, hM⟩ : ∃ M, (xs ++ deeps (l.take k) d ++ [d + 1] ++ deeps f.kids (d + 1)).length = M := ⟨_, rfl⟩; rw [hM] at hown2; have HM := Lib.hid hM; have hMb : M + 1 ≤ 7000 := (by have := HZ2.out; omega); clear hM; have G2 := Lib.hid (G1.trans ((GrowV.bl _ ((Below.refl _ w10).alloc (Nat.le_refl _) _)).trans hgr2)); have HO2 := Lib.hid hown2; have z7 := (World.cell?_of_block (a := ⟨vg, vo + k * 7 + 6, none⟩) (G2.out.low HW.out hs hvl)).trans m6; have NB2 := Lib.hid (nb_keep2 hgr2 (by omega) (heap_alloc_new w10 _)); clear hown2 hgr2)
              | (go_at_call 43; refine (IH.out f.kids (d + 1) (xs ++ deeps (l.take k) d ++ [d + 1]) (some ⟨g1, 0, none⟩) (N + 1) cap1 (.slice ka f.kids.length kc) _ hfn (by rw [List.length_append, HN.out]; simp only [List.length_cons, List.length_nil]; omega) (by omega) (by show base ≤ w10.heap.size; have := G1.1.size; omega) (HKR.out.keep fun b hb hlt => ⟨G1.low HW.out hb hlt, hb⟩) (HO1.out)).mono ?_; rintro e w11 ⟨a11, n11, c11, rfl, hown2, hgr2⟩; obtain ⟨M, hM⟩ : ∃ M, (xs ++ deeps (l.take k) d ++ [d + 1] ++ deeps f.kids (d + 1)).length = M := ⟨_, rfl⟩; rw [hM] at hown2; have HM := Lib.hid hM; have hMb : M + 1 ≤ 7000 := (by have := HZ2.out; omega); clear hM; have G2 := Lib.hid (G1.trans hgr2); have HO2 := Lib.hid hown2; have z7 := (World.cell?_of_block (a := ⟨vg, vo + k * 7 + 6, none⟩) (G2.out.low HW.out hs hvl)).trans m6; have T2 := T1; clear hown2 hgr2)
              | ((refine step_append_lies _ (by rfl) (.tmp 36) (.tmp 38) 48 (by rfl) base 3 i0 _ 1 8 Tryz.underlying48 hi0 hz0 hz1 hz2 rfl (by omega) (.slice a11 n11 c11) M _ (by rfl) (HO2.out) ⟨wr.heap.size + 1, 0, none⟩ 1 1 [.int .i64 (d : Int)] (by rfl) (by rfl) (World.news_of_block (cs := #[.int .i64 (d : Int)]) (t := 3) (fr := (0, 0)) (NB2.out)) (by simp [Value.oneCell']) (by omega) (by unfold maxLen; omega) (by omega) (by have := G2.out.1.size; show base ≤ w11.heap.size; omega) (w11.heap.size) (rfl) ?_; intro g3 cap3 w12 hown3 hgrow3 hat3 hgl3; have HO3 := Lib.hid hown3; have G3 := Lib.hid (G2.out.trans (growA (m := M + 1) (cap := cap3) (Below.refl _ w11) hgrow3 hat3 (by omega))); have z8 := (World.cell?_of_block (a := ⟨vg, vo + k * 7 + 6, none⟩) (G3.out.low HW.out hs hvl)).trans m6; clear hown3 hgrow3 hat3 hgl3))
              | ((refine step_append_lies _ (by rfl) (.tmp 36) (.tmp 38) 48 (by rfl) base 3 i0 _ 1 8 Tryz.underlying48 hi0 hz0 hz1 hz2 rfl (by omega) (.slice a11 n11 c11) M _ (by rfl) (HO2.out) ⟨wr.heap.size, 0, none⟩ 1 1 [.int .i64 (d : Int)] (by rfl) (by rfl) (World.news_of_block (cs := #[.int .i64 (d : Int)]) (t := 3) (fr := (0, 0)) (NB2.out)) (by simp [Value.oneCell']) (by omega) (by unfold maxLen; omega) (by omega) (by have := G2.out.1.size; show base ≤ w11.heap.size; omega) (w11.heap.size) (rfl) ?_; intro g3 cap3 w12 hown3 hgrow3 hat3 hgl3; have HO3 := Lib.hid hown3; have G3 := Lib.hid (G2.out.trans (growA (m := M + 1) (cap := cap3) (Below.refl _ w11) hgrow3 hat3 (by omega))); have z8 := (World.cell?_of_block (a := ⟨vg, vo + k * 7 + 6, none⟩) (G3.out.low HW.out hs hvl)).trans m6; clear hown3 hgrow3 hat3 hgl3))
              | ((refine step_append_lies _ (by rfl) (.tmp 36) (.tmp 38) 48 (by rfl) base 3 i0 _ 1 8 Tryz.underlying48 hi0 hz0 hz1 hz2 rfl (by omega) (.slice a11 n11 c11) M _ (by rfl) (HO2.out) ⟨w10.heap.size, 0, none⟩ 1 1 [.int .i64 (d : Int)] (by rfl) (by rfl) (World.news_of_block (cs := #[.int .i64 (d : Int)]) (t := 3) (fr := (0, 0)) (NB2.out)) (by simp [Value.oneCell']) (by omega) (by unfold maxLen; omega) (by omega) (by have := G2.out.1.size; show base ≤ w11.heap.size; omega) (w11.heap.size) (rfl) ?_; intro g3 cap3 w12 hown3 hgrow3 hat3 hgl3; have HO3 := Lib.hid hown3; have G3 := Lib.hid (G2.out.trans (growA (m := M + 1) (cap := cap3) (Below.refl _ w11) hgrow3 hat3 (by omega))); have z8 := (World.cell?_of_block (a := ⟨vg, vo + k * 7 + 6, none⟩) (G3.out.low HW.out hs hvl)).trans m6; clear hown3 hgrow3 hat3 hgl3))
              | ((refine step_append_lies _ (by rfl) (.tmp 36) (.tmp 38) 48 (by rfl) base 3 i0 _ 1 8 Tryz.underlying48 hi0 hz0 hz1 hz2 rfl (by omega) (.slice a11 n11 c11) M _ (by rfl) (HO2.out.alloc _) ⟨w11.heap.size, 0, none⟩ 1 1 [.int .i64 (d : Int)] (by rfl) (by rfl) (World.news_of_block (cs := #[.int .i64 (d : Int)]) (t := 3) (fr := (0, 0)) (heap_alloc_new w11 _)) (by simp [Value.oneCell']) (by omega) (by unfold maxLen; omega) (by omega) (by have := G2.out.1.size; show base ≤ (w11.alloc _).heap.size; simp only [World.size_alloc]; omega) (w11.heap.size + 1) (World.size_alloc _ _) ?_; intro g3 cap3 w12 hown3 hgrow3 hat3 hgl3; have HO3 := Lib.hid hown3; have G3 := Lib.hid (G2.out.trans (growA (m := M + 1) (cap := cap3) ((Below.refl _ w11).alloc (Nat.le_refl _) _) hgrow3 hat3 (by omega))); have z8 := (World.cell?_of_block (a := ⟨vg, vo + k * 7 + 6, none⟩) (G3.out.low HW.out hs hvl)).trans m6; clear hown3 hgrow3 hat3 hgl3))
            )
          all_goals
            go_wp2_with fail
            go_roundw
            case rel => exact ⟨k + 1, by omega, rfl, ⟨_, _, _, rfl⟩, Lib.hid (by rw [HDT.out, HPF.out, List.map_cons, List.map_append, ← List.append_assoc]; exact own_last HM.out HO3.out), Lib.hid (HG.out.trans G3.out)⟩
            case measure => simp [intOf]; omega
        · have e2 : f.op.toList.isEmpty = true := by rw [← e1]; cases f.op.toList <;> rfl
          have hop : f.op.toList = [] := by simpa using e1
          have hpf : prF f d = [(f.tok.text.toList, d)] := by unfold prF; rw [if_pos hop]
          have hpfl : (prF f d).length = 1 := by rw [hpf]; rfl
          have HPF := Lib.hid hpf
          have hxa : N + 1 ≤ 7000 := by omega
          clear hop hpf hpfl
          go_wp2_with (at_builtin; go_must (refine wpList_append_lies _ rfl (.tmp 20) (.tmp 22) 48 rfl base 3 i0 _ 1 8 Tryz.underlying48 hi0 hz0 hz1 hz2 rfl (by omega) (.slice ya yn yc) _ _ (by rfl) (HW.out.alloc _) ⟨wr.heap.size, 0, none⟩ 1 1 [.int .i64 (d : Nat)] (by rfl) (by rfl) (World.news_of_block (cs := #[.int .i64 (d : Nat)]) (t := 3) (fr := (0, 0)) (heap_alloc_new _ _)) (by simp [Value.oneCell']) (by omega) (by unfold maxLen; omega) (by omega) (by simp only [World.size_alloc]; omega) (wr.heap.size + 1) (by simp only [World.size_alloc]) ?_); intro gg cap w10 hown1 hgrow hat hgl)
          go_roundw
          case rel => exact ⟨k + 1, by omega, rfl, ⟨_, _, _, rfl⟩, Lib.hid (by rw [HDT.out, HPF.out, ← List.append_assoc, intC_app, List.length_append, HN.out]; exact hown1), Lib.hid (HG.out.trans ((GrowV.bl (.slice ya yn yc) ((Below.refl _ _).alloc (Nat.le_refl _) _)).trans ⟨hgrow, fun g hg => by
            obtain rfl : gg = g := by simpa [Value.ownBlock] using hg
            rcases hat with h | h
            · exact .inl h
            · exact .inr (by simp only [World.size_alloc]; omega)⟩))⟩
          case measure => simp [intOf]; omega
      · obtain rfl : k = l.length := by omega
        have hown := HW.out
        rw [← HN.out, List.take_length] at hown
        have HOW := Lib.hid hown
        clear hown
        go_wp2_with fail
        go_ret
        exact ⟨_, _, _, rfl, HOW.out, HG.out⟩
end Go.Proofs.YtopbmndjnjnmcaaGreatDoor
/- (W8body) -/
namespace Go.Proofs.YtopbmndjnjnmcaaGreatDoor
open Go.RowKit Lx
attribute [local go_sem] Oper.semAt_some

theorem info9z : (Tryz.prog.info? 9).map (fun i => (i.zero, i.size, i.bytes)) = some (some (.string ⟨#[]⟩), 1, 16) := by kernel_rfl
theorem hidx {α : Type} {f : Nat → Option α} {k : Nat} {d : α} (h : f k = some d) : ∀ j, k + 1 = j + 1 → f j = some d := fun j hj => by
  obtain rfl : k = j := by omega
  exact h
theorem int_eq {a b : Int} (h : a = b) : Value.int .i64 a = .int .i64 b := by rw [h]
theorem own_prefix {W : World} {base e size n c : Nat} {a : Option Addr} {xs : List Value} (h : W.ownsRow base e size (.slice a n c) n xs) {k : Nat} (hk : k ≤ n) : W.ownsRow base e size (.slice a k c) k (xs.take (k * size)) := by
  have hl := h.1
  have hkn : k * size ≤ n * size := Nat.mul_le_mul_right _ hk
  rcases h.2 with ⟨hv, h0⟩ | ⟨g, cap, cur, hv, hb, hg, hc, hm, hz, ht⟩
  · cases hv
    obtain rfl : k = 0 := by omega
    exact ⟨by simp, .inl ⟨rfl, rfl⟩⟩
  · cases hv
    refine ⟨by rw [List.length_take]; omega, .inr ⟨g, c, cur, rfl, hb, hg, by omega, hm, hz, ?_⟩⟩
    rw [← ht, List.take_take, Nat.min_eq_left hkn]
/-- The cell of a list that a call owns. -/
theorem own_cell {W : World} {base e n : Nat} {v : Value} {xs : List Value} (h : W.ownsRow base e 1 v n xs) (hn : 0 < n) : ∃ g c, v = .slice (some ⟨g, 0, none⟩) n c ∧ n ≤ c ∧ base ≤ g ∧ g < W.heap.size ∧ ∀ j u, xs[j]? = some u → W.cell? ⟨g, j, none⟩ = some u := by
  rcases h.2 with ⟨_, h0⟩ | ⟨g, cap, cur, hv, hb, hg, hc, hm, hz, ht⟩
  · omega
  · subst hv
    refine ⟨g, cap, rfl, hc, hb, (Array.getElem?_eq_some_iff.1 hg).1, fun j u hu => ?_⟩
    have hj := (List.getElem?_eq_some_iff.1 hu).1
    rw [h.cellAt _ (by have := h.1; omega)]
    exact hu

set_option maxRecDepth 100000 in
set_option maxHeartbeats 32000000 in
/-- **FragMatched** -/
theorem fragMatched_any (S : Nat → Prop) (l : List Fr) (ws : List ByteArray) (v vw : Value) (w : World) (he : Env w) (hr : FrRead w S v l) (hw : StrRead w vw ws) (hz : ∀ s ∈ ws, s.size ≤ maxLen) (ht : TxtOk l) :
    Calls Tryz.prog 8 #[v, vw] w fun e W => e = .returned (.bool true) ∧ Below w.heap.size w W := by
  have HE := Lib.hid he
  have HR := Lib.hid hr
  have HW := Lib.hid hw
  have HZ := Lib.hid hz
  have HT := Lib.hid ht
  obtain ⟨a, c, _, _, rfl, _⟩ := hr
  obtain ⟨wa, wc, rfl, ⟨hwl, hwc⟩, hws⟩ := hw
  clear he hz ht hws
  go_enter Tryz.func8, Tryz.ntmps8
  go_wp2_with fail
  go_at_call 14
  refine (sane02_any _ HE.out).mono ?_
  rintro e W1 ⟨rfl, hb⟩
  have B1 := Lib.hid hb
  clear hb
  go_wp2_with fail
  go_at_call 30
  refine (fragCheck_any S l ws _ _ _ (HE.out.below B1.out) (HR.out.bl B1.out) (HW.out.bl B1.out) HZ.out HT.out).mono ?_
  rintro e W2 ⟨rfl, hb⟩
  have B2 := Lib.hid (B1.out.trans (hb.mono B1.out.size))
  clear hb
  obtain ⟨c1, hc1⟩ : ∃ c1, checkP l ws = c1 := ⟨_, rfl⟩
  rw [hc1]
  have HC1 := Lib.hid hc1
  clear hc1
  by_cases e1 : c1 = 0
  case neg =>
    have f1 : ((c1 : Int) != 0) = true := by simp; omega
    go_wp2_with fail
    go_ret
    exact ⟨rfl, B2.out⟩
  subst e1
  obtain ⟨hsim, hprs, hsz, hl6, hpl⟩ := check_prs HC1.out
  go_wp2_with fail
  go_at_call 28
  refine (flat_any S l _ _ (HR.out.bl B2.out)).mono ?_
  rintro e W3 ⟨ta, tn, tc, rfl, htr, _, hb⟩
  have B3 := Lib.hid (B2.out.trans (hb.mono B2.out.size))
  clear hb
  obtain ⟨ts, hts⟩ : ∃ ts, flatP l = ts := ⟨_, rfl⟩
  rw [hts] at htr hprs hsz hl6 hpl
  have HTR := Lib.hid htr
  obtain ⟨ta', tc', hv, ⟨htl, htc⟩, _⟩ := htr
  simp only [Value.slice.injEq] at hv
  obtain ⟨rfl, rfl, rfl⟩ := hv
  have HSIM := Lib.hid hsim
  have HPRS := Lib.hid hprs
  have HSZ := Lib.hid hsz
  have HPL := Lib.hid hpl
  have hop := opened_any W3.heap.size (fsz l + 1) l 0 [] none 0 0 (.slice a l.length c) W3 (Nat.lt_succ_self _) (by rw [hpl]; simp; omega) (by rw [hpl]; omega) (Nat.le_refl _) ((HR.out.bl B3.out).keep fun b _ hlt => ⟨rfl, hlt⟩) (World.ownsRow_nil _ _ _ _)
  have HOP := Lib.hid hop
  clear hts hsim hprs hsz hpl hop
  go_wp2_with fail
  go_at_call 43
  refine HOP.out.mono ?_
  rintro e W4 ⟨da, dn, dc, rfl, hown, hgr⟩
  have hb4 := hgr.below (World.ownsRow_nil W3 W3.heap.size 3 1) (Nat.le_refl _)
  have B4 := Lib.hid (B3.out.trans (hb4.mono B3.out.size))
  have HTR4 := Lib.hid (HTR.out.bl hb4)
  rw [List.nil_append] at hown
  have hdl : (deeps l 0).length = ts.length := (List.length_map _).trans HPL.out
  rw [hdl] at hown
  obtain rfl := own_len hown
  have HOWN := Lib.hid hown
  clear hdl hown hgr hb4 HOP
  have n1 : ((ts.length : Int) != (ts.length : Int)) = false := by simp
  go_wp2_with fail
  go_at_call 21
  refine (size_any S l _ _ (HR.out.bl B4.out)).mono ?_
  rintro e W5 ⟨rfl, hb⟩
  rw [HSZ.out]
  have B5 := Lib.hid (B4.out.trans (hb.mono B4.out.size))
  have HT5 := Lib.hid (HTR4.out.bl hb)
  have HD5 := Lib.hid (own_bl HOWN.out hb)
  obtain ⟨M, hM⟩ : ∃ M, depthP l = M := ⟨_, rfl⟩
  rw [hM] at HSIM
  have HM := Lib.hid hM
  obtain ⟨i0, hi0, hz0, hz1, hz2⟩ := info_parts info9z
  clear hb HOWN HTR4 hM
  go_wp2_with fail
  go_loopw [8, 9, 10] (fun y8 y9 y10 wr => ∃ (k b mo : Nat) (bs : List ByteArray), k ≤ ts.length ∧ y10 = .int .i64 k ∧ y9 = .int .i64 mo ∧ mo ≤ 9000 ∧ bs.length ≤ k ∧ (k = 0 → b = 0) ∧ Hid (∀ j, k = j + 1 → (deeps l 0)[j]? = some b) ∧ (∃ a n c, y8 = .slice a n c) ∧ Hid (wr.ownsRow W5.heap.size 9 1 y8 bs.length (bs.map Value.string)) ∧ Hid (simM M ((prs l 0).drop k) b (bs.map (·.toList)) mo = true) ∧ Hid (Below W5.heap.size W5 wr)) (fun _ _ y _ => ts.length - (intOf y).toNat)
  case atStart => exact ⟨0, 0, 0, [], by omega, rfl, rfl, by omega, by simp, fun _ => rfl, Lib.hid (fun j h => by omega), ⟨_, _, _, rfl⟩, Lib.hid (World.ownsRow_nil _ _ _ _), Lib.hid HSIM.out, Lib.hid (Below.refl _ _)⟩
  case round =>
    obtain ⟨k, b, mo, bs, hk, rfl, rfl, hmo, hbl, hb0, HB1, ⟨ya, yn, yc, rfl⟩, HO, HS, HB⟩ := hrel
    by_cases hlt : k < ts.length
    · obtain ⟨t, htk⟩ : ∃ t, ts[k]? = some t := ⟨_, List.getElem?_eq_getElem hlt⟩
      obtain ⟨xd, hxd⟩ : ∃ xd, (prs l 0)[k]? = some xd := ⟨_, List.getElem?_eq_getElem (by rw [HPL.out]; exact hlt)⟩
      obtain ⟨x, d⟩ := xd
      have hx : x = t.text.toList := by
        have := congrArg (fun z => z[k]?) HPRS.out
        simp only [List.getElem?_map, hxd, htk, Option.map_some, Option.some.injEq] at this
        exact this
      subst hx
      have hdk : (deeps l 0)[k]? = some d := by unfold deeps; rw [List.getElem?_map, hxd]; rfl
      have hst := HS.out
      rw [List.drop_eq_getElem_cons (List.getElem?_eq_some_iff.1 hxd).1, (List.getElem?_eq_some_iff.1 hxd).2, simM] at hst
      have hdb : d ≤ 100 := check_deeps HC1.out hdk
      obtain ⟨dg, dcc, hdv, hdc, _, hdg, hdcell⟩ := own_cell HD5.out (by omega)
      obtain ⟨rfl, -, rfl⟩ : da = some ⟨dg, 0, none⟩ ∧ True ∧ dc = dcc := by cases hdv; exact ⟨rfl, trivial, rfl⟩
      have HD0 := Lib.hid (hdcell k (.int .i64 d) (by unfold intC; rw [List.getElem?_map, hdk]; rfl))
      have md := (HB.out.cell (p := ⟨dg, k, none⟩) hdg).trans HD0.out
      obtain ⟨ta2, tc2, hv, _, htcell⟩ := HT5.out
      simp only [Value.slice.injEq, true_and] at hv
      obtain ⟨rfl, rfl⟩ := hv
      obtain ⟨tg, tf, rfl, htg, _, _, tt, _, _⟩ := htcell k t htk
      have mt := (HB.out.cell (p := ⟨tg, _, none⟩) htg).trans tt
      have hws := HB.out.size
      have k1 : (k : Int) < (ts.length : Int) := by omega
      have HDK := Lib.hid hdk
      have HST := Lib.hid hst
      have mx : max (mo : Int) (d : Int) = ((max mo d : Nat) : Int) := by omega
      have hyn := own_len HO.out
      subst hyn
      clear hdk hst tt htk hxd hdv htcell
      have HBL := Lib.hid hbl
      have hb7 : bs.length ≤ 6000 := by omega
      clear hbl
      rcases Nat.eq_zero_or_pos k with hk0 | hkp
      · have hbz := hb0 hk0
        subst hk0 hbz
        have hi : decide (((0 : Nat) : Int) > 0) = false := by decide
        by_cases hgt : 0 < d
        · have hbl2 := (Below.refl wr.heap.size wr).alloc (Nat.le_refl _) (.cells #[.string t.text] 9)
          go_wp2_with (at_builtin; go_must (refine wpList_append_lies _ rfl (.tmp 61) (.tmp 67) 23 rfl W5.heap.size 9 i0 _ 1 16 Tryz.underlying23 hi0 hz0 hz1 hz2 rfl (by omega) (.slice ya bs.length yc) _ _ (by rfl) (HO.out.alloc _) ⟨wr.heap.size, 0, none⟩ 1 1 [.string t.text] (by rfl) (by rfl) (World.news_of_block (cs := #[.string t.text]) (t := 9) (fr := (0, 0)) (heap_alloc_new _ _)) (by simp [Value.oneCell']) (by omega) (by unfold maxLen; omega) (by omega) (by simp only [World.size_alloc]; omega) (wr.heap.size + 1) (by simp only [World.size_alloc]) ?_); intro gg cap w10 hown1 hgrow hat hgl; have HBn := Lib.hid ((HB.out.trans (hbl2.mono HB.out.size)).grown hgrow (by rw [World.size_alloc]; omega) (fun r hr => own_base HO.out hr)); have HO1 := Lib.hid hown1; have md2 := (HBn.out.cell (p := ⟨dg, 0, none⟩) hdg).trans HD0.out; clear hown1 hgrow hat hgl)
          go_roundw
          case rel => exact ⟨0 + 1, d, max mo d, bs ++ [t.text], by omega, by go_num, int_eq (by omega), by omega, by have := HBL.out; rw [List.length_append]; simp only [List.length_cons, List.length_nil]; omega, fun h => by omega, Lib.hid (hidx (f := fun i => (deeps l 0)[i]?) HDK.out), ⟨_, _, _, rfl⟩, Lib.hid (by rw [List.length_append, List.map_append]; exact HO1.out), Lib.hid (by have h2 := HST.out; rw [if_pos hgt] at h2; rw [List.map_append]; exact h2), HBn⟩
          case measure => simp [intOf]; omega
        · have hdb2 : d = 0 := by omega
          have h3 : ¬ d < 0 := by omega
          go_wp2_with fail
          go_roundw
          case rel => exact ⟨0 + 1, d, max mo d, bs, by omega, by go_num, int_eq (by omega), by omega, by have := HBL.out; omega, fun h => by omega, Lib.hid (hidx (f := fun i => (deeps l 0)[i]?) HDK.out), ⟨_, _, _, rfl⟩, HO, Lib.hid (by have h2 := HST.out; rw [if_neg hgt, if_neg h3] at h2; exact h2), HB⟩
          case measure => simp [intOf]; omega
      · obtain ⟨j, rfl⟩ : ∃ j, k = j + 1 := ⟨k - 1, by omega⟩
        have hpj := HB1.out j rfl
        have mp := (HB.out.cell (p := ⟨dg, j, none⟩) hdg).trans (hdcell j (.int .i64 b) (by unfold intC; rw [List.getElem?_map, hpj]; rfl))
        have hi : decide (((j + 1 : Nat) : Int) > 0) = true := decide_eq_true (by omega)
        have hi2 : decide ((j : Int) + 1 > 0) = true := decide_eq_true (by omega)
        have hwj : IntKind.i64.wrap ((j : Int) + 1 - 1) = (j : Int) := by rw [IntWalk.i64_in _ (by omega)]; omega
        have hbb : b ≤ 100 := check_deeps HC1.out hpj
        clear hpj hdcell
        by_cases hgt : b < d
        · have hbl2 := (Below.refl wr.heap.size wr).alloc (Nat.le_refl _) (.cells #[.string t.text] 9)
          go_wp2_with (at_builtin; go_must (refine wpList_append_lies _ rfl (.tmp 61) (.tmp 67) 23 rfl W5.heap.size 9 i0 _ 1 16 Tryz.underlying23 hi0 hz0 hz1 hz2 rfl (by omega) (.slice ya bs.length yc) _ _ (by rfl) (HO.out.alloc _) ⟨wr.heap.size, 0, none⟩ 1 1 [.string t.text] (by rfl) (by rfl) (World.news_of_block (cs := #[.string t.text]) (t := 9) (fr := (0, 0)) (heap_alloc_new _ _)) (by simp [Value.oneCell']) (by omega) (by unfold maxLen; omega) (by omega) (by simp only [World.size_alloc]; omega) (wr.heap.size + 1) (by simp only [World.size_alloc]) ?_); intro gg cap w10 hown1 hgrow hat hgl; have HBn := Lib.hid ((HB.out.trans (hbl2.mono HB.out.size)).grown hgrow (by rw [World.size_alloc]; omega) (fun r hr => own_base HO.out hr)); have HO1 := Lib.hid hown1; have md2 := (HBn.out.cell (p := ⟨dg, (j + 1), none⟩) hdg).trans HD0.out; clear hown1 hgrow hat hgl)
          go_roundw
          case rel => exact ⟨(j + 1) + 1, d, max mo d, bs ++ [t.text], by omega, by go_num, int_eq (by omega), by omega, by have := HBL.out; rw [List.length_append]; simp only [List.length_cons, List.length_nil]; omega, fun h => by omega, Lib.hid (hidx (f := fun i => (deeps l 0)[i]?) HDK.out), ⟨_, _, _, rfl⟩, Lib.hid (by rw [List.length_append, List.map_append]; exact HO1.out), Lib.hid (by have h2 := HST.out; rw [if_pos hgt] at h2; rw [List.map_append]; exact h2), HBn⟩
          case measure => simp [intOf]; omega
        · by_cases hdb2 : d < b
          · have HS2 := HST.out
            rw [if_neg hgt, if_pos hdb2] at HS2
            rcases List.eq_nil_or_concat bs with hbs | ⟨bs0, y, hbs⟩
            · subst hbs
              exact absurd HS2 (by simp)
            · rw [List.concat_eq_append] at hbs
              subst hbs
              simp only [List.map_append, List.map_cons, List.map_nil, List.getLast?_append, List.getLast?_singleton, Option.some_or, List.dropLast_concat, Bool.and_eq_true] at HS2
              obtain ⟨hcl, hst3⟩ := HS2
              have HCL := Lib.hid hcl
              have HST3 := Lib.hid hst3
              obtain ⟨m, hm⟩ : ∃ m, bs0.length = m := ⟨_, rfl⟩
              have hlm : (bs0 ++ [y]).length = m + 1 := by rw [List.length_append, hm]; rfl
              rw [hlm] at HO HBL ⊢
              obtain ⟨og, oc, hov, hoc, _, _, hocell⟩ := own_cell HO.out (by omega)
              cases hov
              have my := hocell m (.string y) (by rw [List.map_append, List.getElem?_append_right (by simp [hm])]; simp [hm])
              have HOP : Hid (wr.ownsRow W5.heap.size 9 1 (.slice (some ⟨og, 0, none⟩) bs0.length yc) bs0.length (bs0.map Value.string)) := Lib.hid (by
                have := own_prefix HO.out (k := m) (by omega)
                rw [Nat.mul_one, List.map_append, List.take_left' (by simp [hm])] at this
                rw [hm]; exact this)
              have hwm : IntKind.i64.wrap ((m : Int) + 1 - 1) = (m : Int) := by rw [IntWalk.i64_in _ (by omega)]; omega
              have hm1 : (m : Int) < (m : Int) + 1 := by omega
              have HBL : Hid (bs0.length ≤ j + 1) := Lib.hid (by have := HBL.out; omega)
              have hb8 : bs0.length ≤ 6000 := by omega
              have hwm2 : IntKind.i64.wrap (m : Int) = (m : Int) := by rw [IntWalk.i64_in _ (by omega)]
              rw [← hm] at my hwm hwm2 hm1 HO hoc ⊢
              clear hcl hst3 hocell hm hlm hb7
              cases y40 : (y.toList == [40])
              · cases y91 : (y.toList == [91])
                · cases y123 : (y.toList == [123])
                  · have x1 := closesT_end y40 y91 y123 HCL.out
                    go_wp2_with fail
                    go_roundw
                    case rel => exact ⟨j + 1 + 1, d, max mo d, bs0, by omega, by go_num, int_eq (by omega), by omega, by have := HBL.out; omega, fun h => by omega, Lib.hid (hidx (f := fun i => (deeps l 0)[i]?) HDK.out), ⟨_, _, _, rfl⟩, HOP, Lib.hid HST3.out, HB⟩
                    case measure => simp [intOf]; omega
                  · obtain ⟨x1, x2⟩ := closesT_sign (a := 123) (b := 125) y123 (by decide) HCL.out
                    go_wp2_with fail
                    go_roundw
                    case rel => exact ⟨j + 1 + 1, d, max mo d, bs0, by omega, by go_num, int_eq (by omega), by omega, by have := HBL.out; omega, fun h => by omega, Lib.hid (hidx (f := fun i => (deeps l 0)[i]?) HDK.out), ⟨_, _, _, rfl⟩, HOP, Lib.hid HST3.out, HB⟩
                    case measure => simp [intOf]; omega
                · obtain ⟨x1, x2⟩ := closesT_sign (a := 91) (b := 93) y91 (by decide) HCL.out
                  have z123 : (y.toList == [123]) = false := by rw [eq_of_beq y91]; decide
                  go_wp2_with fail
                  go_roundw
                  case rel => exact ⟨j + 1 + 1, d, max mo d, bs0, by omega, by go_num, int_eq (by omega), by omega, by have := HBL.out; omega, fun h => by omega, Lib.hid (hidx (f := fun i => (deeps l 0)[i]?) HDK.out), ⟨_, _, _, rfl⟩, HOP, Lib.hid HST3.out, HB⟩
                  case measure => simp [intOf]; omega
              · obtain ⟨x1, x2⟩ := closesT_sign (a := 40) (b := 41) y40 (by decide) HCL.out
                have z91 : (y.toList == [91]) = false := by rw [eq_of_beq y40]; decide
                have z123 : (y.toList == [123]) = false := by rw [eq_of_beq y40]; decide
                go_wp2_with fail
                go_roundw
                case rel => exact ⟨j + 1 + 1, d, max mo d, bs0, by omega, by go_num, int_eq (by omega), by omega, by have := HBL.out; omega, fun h => by omega, Lib.hid (hidx (f := fun i => (deeps l 0)[i]?) HDK.out), ⟨_, _, _, rfl⟩, HOP, Lib.hid HST3.out, HB⟩
                case measure => simp [intOf]; omega
          · have h3 : ¬ d < b := hdb2
            go_wp2_with fail
            go_roundw
            case rel => exact ⟨(j + 1) + 1, d, max mo d, bs, by omega, by go_num, int_eq (by omega), by omega, by have := HBL.out; omega, fun h => by omega, Lib.hid (hidx (f := fun i => (deeps l 0)[i]?) HDK.out), ⟨_, _, _, rfl⟩, HO, Lib.hid (by have h2 := HST.out; rw [if_neg hgt, if_neg h3] at h2; exact h2), HB⟩
            case measure => simp [intOf]; omega
    · obtain rfl : k = ts.length := by omega
      have hst := HS.out
      rw [List.drop_of_length_le (by rw [HPL.out]; omega), simM] at hst
      simp only [Bool.and_eq_true, List.isEmpty_iff, List.map_eq_nil_iff, beq_iff_eq] at hst
      obtain ⟨hbs, hmm⟩ := hst
      subst hbs hmm
      have hyn := own_len HO.out
      subst hyn
      have B6 := Lib.hid (B5.out.trans (HB.out.mono B5.out.size))
      go_wp2_with fail
      go_at_call 23
      refine (Depth_any S l _ _ (HR.out.bl B6.out)).mono ?_
      rintro e W6 ⟨rfl, hb⟩
      rw [HM.out]
      have B7 := Lib.hid (B6.out.trans (hb.mono B6.out.size))
      clear hb
      go_wp2_with fail
      go_ret
      exact ⟨rfl, B7.out⟩
end Go.Proofs.YtopbmndjnjnmcaaGreatDoor
