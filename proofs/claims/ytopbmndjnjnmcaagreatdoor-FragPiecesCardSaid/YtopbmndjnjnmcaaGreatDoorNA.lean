/- Package fragment: slices.Concat, follow and its closures, At and Put of the program, and the law FragPieces. -/
import Derived.Test.YtopbmndjnjnmcaaGreatDoorLA
import Derived.Lib.AppendZeros
import Derived.Laws.OwnMore
import Derived.ChangeSlices
namespace Go.Proofs.YtopbmndjnjnmcaaGreatDoor
open Go.RowKit Lx Go.Sort
/- (P0) -/
/-- The fragment that a number of a path names. -/
def stepP (l : List Fr) (i : Int) : Option Fr := if 0 ≤ i then l[i.toNat]? else none
/-- Where the first numbers of a path lead: the fragment, and its list. -/
def folP (l : List Fr) (path : List Int) : Nat → Option (List Fr × Fr)
  | 0 => some (l, .mk ⟨0, 0, ⟨#[]⟩, 0, 0⟩ ⟨#[]⟩ [])
  | k + 1 => (folP l path k).bind fun x => (stepP x.1 (path.getD k 0)).map fun f => (f.kids, f)
def withK (f : Fr) (ks : List Fr) : Fr := .mk f.tok f.op ks
/-- A list with others in the place of the one that is named. -/
def repl (l : List Fr) (i : Int) (bs : List Fr) : List Fr := l.take i.toNat ++ bs ++ l.drop (i.toNat + 1)
/-- What the function gives that stands for the first k numbers of a path. -/
def putK (l : List Fr) (path : List Int) : Nat → List Fr → List Fr
  | 0, bs => bs
  | k + 1, bs => match folP l path k with
    | none => bs
    | some x => if k = 0 then repl x.1 (path.getD k 0) bs else putK l path k [withK x.2 (repl x.1 (path.getD k 0) bs)]
/-- The list with others in the place of what a path names. -/
def putP : List Fr → List Int → List Fr → List Fr
  | _, [], bs => bs
  | l, [i], bs => repl l i bs
  | l, i :: j :: p, bs => match stepP l i with
    | none => []
    | some f => repl l i [withK f (putP f.kids (j :: p) bs)]
theorem folP_succ (l : List Fr) (i : Int) (p : List Int) {f : Fr} (h : stepP l i = some f) : ∀ k, folP l (i :: p) (k + 1) = if k = 0 then some (f.kids, f) else folP f.kids p k
  | 0 => by simp [folP, h]
  | k + 1 => by
    rw [folP, folP_succ l i p h k]
    by_cases h0 : k = 0
    · subst h0
      simp only [if_true, Option.bind_some]
      rw [folP, folP]
      simp
    · rw [if_neg h0, if_neg (by omega)]
      conv => rhs; rw [folP]
      simp
theorem folP_none (l : List Fr) (i : Int) (p : List Int) (h : stepP l i = none) : ∀ k, folP l (i :: p) (k + 1) = none
  | 0 => by simp [folP, h]
  | k + 1 => by rw [folP, folP_none l i p h k]; rfl
theorem folP_mono {l : List Fr} {p : List Int} : ∀ {n k : Nat}, k ≤ n → (folP l p n).isSome → (folP l p k).isSome
  | 0, k, h, hs => by obtain rfl : k = 0 := by omega
                      exact hs
  | n + 1, k, h, hs => by
    rcases Nat.lt_or_ge k (n + 1) with h1 | h1
    · refine folP_mono (Nat.le_of_lt_succ h1) ?_
      rw [folP] at hs
      cases hf : folP l p n with
      | none => rw [hf] at hs; cases hs
      | some _ => rfl
    · obtain rfl : k = n + 1 := by omega
      exact hs
theorem putK_cons (l : List Fr) (i : Int) (p : List Int) {f : Fr} (h : stepP l i = some f) : ∀ (k : Nat) (bs : List Fr), 0 < k → (folP f.kids p k).isSome → putK l (i :: p) (k + 1) bs = repl l i [withK f (putK f.kids p k bs)]
  | 0, _, h0, _ => absurd h0 (Nat.lt_irrefl _)
  | k + 1, bs, _, hs => by
    rw [putK, folP_succ l i p h k]
    have hs' := folP_mono (Nat.le_succ k) hs
    by_cases h0 : k = 0
    · subst h0
      simp only [if_true]
      rw [if_neg (by omega), putK, putK]
      simp [folP]
    · rw [if_neg h0]
      cases hf : folP f.kids p k with
      | none => rw [hf] at hs'; cases hs'
      | some x =>
        simp only [if_neg (show ¬ k + 1 = 0 by omega)]
        rw [putK_cons l i p h k _ (Nat.pos_of_ne_zero h0) hs', putK, hf]
        simp [h0]
theorem putK_putP : ∀ (p : List Int) (l : List Fr) (bs : List Fr), (folP l p p.length).isSome → p ≠ [] → putK l p p.length bs = putP l p bs
  | [], _, _, _, h => absurd rfl h
  | [i], l, bs, _, _ => by simp [putK, putP, folP]
  | i :: j :: p, l, bs, hs, _ => by
    cases hf : stepP l i with
    | none => rw [List.length_cons, folP_none l i _ hf] at hs; cases hs
    | some f =>
      rw [List.length_cons, folP_succ l i _ hf, if_neg (by simp)] at hs
      rw [List.length_cons, putK_cons l i (j :: p) hf _ bs (by simp) hs, putP, hf]
      simp only
      rw [putK_putP (j :: p) f.kids bs hs (by simp)]
theorem stepP_some {l : List Fr} {i : Int} {f : Fr} (h : stepP l i = some f) : 0 ≤ i ∧ i.toNat < l.length ∧ l[i.toNat]? = some f := by
  unfold stepP at h
  split at h
  · exact ⟨by assumption, (List.getElem?_eq_some_iff.1 h).1, h⟩
  · cases h
theorem repl_at {l : List Fr} {i : Int} {g : Fr} (h0 : 0 ≤ i) (h1 : i.toNat < l.length) : stepP (repl l i [g]) i = some g := by
  unfold stepP repl
  rw [if_pos h0, List.append_assoc, List.getElem?_append_right (by rw [List.length_take]; omega), List.length_take, Nat.min_eq_left (Nat.le_of_lt h1), Nat.sub_self]
  rfl
/-- At finds what Put put. -/
theorem fol_put : ∀ (p : List Int) (l : List Fr) (g : Fr), (folP l p p.length).isSome → p ≠ [] → folP (putP l p [g]) p p.length = some (g.kids, g)
  | [], _, _, _, h => absurd rfl h
  | [i], l, g, hs, _ => by
    cases hf : stepP l i with
    | none => rw [List.length_cons, folP_none l i _ hf] at hs; cases hs
    | some f =>
      obtain ⟨h0, h1, _⟩ := stepP_some hf
      have hr := repl_at (g := g) h0 h1
      rw [putP, List.length_cons, folP_succ _ i [] hr]
      rfl
  | i :: j :: p, l, g, hs, _ => by
    cases hf : stepP l i with
    | none => rw [List.length_cons, folP_none l i _ hf] at hs; cases hs
    | some f =>
      obtain ⟨h0, h1, _⟩ := stepP_some hf
      rw [List.length_cons, folP_succ l i _ hf, if_neg (by simp)] at hs
      rw [putP, hf]
      simp only
      rw [List.length_cons, folP_succ _ i (j :: p) (repl_at h0 h1), if_neg (by simp)]
      exact fol_put (j :: p) f.kids g hs (by simp)
end Go.Proofs.YtopbmndjnjnmcaaGreatDoor
namespace Go.Proofs.YtopbmndjnjnmcaaGreatDoor
open Go.RowKit Lx Go.Sort
/- (P1) -/
theorem alikeF_self (loose : Bool) : ∀ (n : Nat) (l : List Fr), fsz l < n → alikeF loose l l = true
  | 0, _, h => absurd h (Nat.not_lt_zero _)
  | n + 1, [], _ => by rw [alikeF]
  | n + 1, f :: r, h => by
    rw [fsz_cons] at h
    rw [alikeF_cons, alikeF_self loose n f.kids (by omega), alikeF_self loose n r (by omega)]
    unfold alikeT
    simp
theorem alikeF_app (loose : Bool) : ∀ {a b c d : List Fr}, alikeF loose a b = true → alikeF loose c d = true → alikeF loose (a ++ c) (b ++ d) = true
  | [], [], _, _, _, h => h
  | [], g :: r, _, _, h, _ => by cases g; simp [alikeF] at h
  | f :: r, [], _, _, h, _ => by cases f; simp [alikeF] at h
  | f :: r, g :: r2, c, d, h, h2 => by
    rw [alikeF_cons] at h
    simp only [Bool.and_eq_true] at h
    obtain ⟨h3, h4, h5, h6⟩ := h
    rw [List.cons_append, List.cons_append, alikeF_cons]
    simp only [Bool.and_eq_true]
    exact ⟨h3, h4, h5, alikeF_app loose h6 h2⟩
/-- Whether a list has a token that is the sign, with a number or with fragments inside. -/
def signP (s : ByteArray) (l : List Fr) : Bool := l.any fun f => isSep s f && (!(f.tok.num == 0) || !(f.kids.isEmpty))
theorem alike_sep {s : ByteArray} {f : Fr} (h : isSep s f = true) (h0 : f.tok.num = 0) (hk : f.kids = []) : alikeF true [sepF s] [f] = true := by
  obtain ⟨t, op, ks⟩ := f
  unfold isSep at h
  simp only [Fr.tok, Fr.op, Fr.kids, Bool.and_eq_true, beq_iff_eq] at h h0 hk
  obtain ⟨h1, h2, h3⟩ := h
  subst hk
  unfold sepF
  rw [alikeF_cons]
  simp only [Fr.tok, Fr.op, Fr.kids]
  have e : (⟨#[]⟩ : ByteArray).toList = [] := nil_toList
  simp [alikeT, alikeF, h1, h2, h3, h0, e]
theorem joinK_app (s : ByteArray) (ps qs : List (List Fr)) : ∀ k, k ≤ ps.length → joinK s (ps ++ qs) k = joinK s ps k
  | 0, _ => rfl
  | k + 1, h => by
    rw [joinK, joinK, joinK_app s ps qs k (by omega)]
    congr 1
    rw [List.getD_eq_getElem?_getD, List.getD_eq_getElem?_getD, List.getElem?_append_left (by omega)]
def joinA (s : ByteArray) (ps : List (List Fr)) : List Fr := joinK s ps ps.length
theorem joinA_snoc (s : ByteArray) (d : List (List Fr)) (p : List Fr) : joinA s (d ++ [p]) = (joinA s d ++ if d.length = 0 then [] else [sepF s]) ++ p := by
  unfold joinA
  rw [List.length_append, List.length_cons, List.length_nil, joinK, joinK_app s d [p] d.length (Nat.le_refl _)]
  congr 1
  rw [List.getD_eq_getElem?_getD, List.getElem?_append_right (Nat.le_refl _), Nat.sub_self]
  rfl
/-- The pieces that are joined are the list. -/
theorem join_split (s : ByteArray) (l : List Fr) (hs : signP s l = false) : ∀ k, k ≤ l.length → alikeF true (joinA s ((splitK s l k).1 ++ [(splitK s l k).2])) (l.take k) = true
  | 0, _ => by rw [joinA_snoc]; simp [splitK, joinA, joinK, alikeF]
  | k + 1, hk => by
    have ih := join_split s l hs k (by omega)
    obtain ⟨f, hf⟩ : ∃ f, l[k]? = some f := ⟨_, List.getElem?_eq_getElem hk⟩
    rw [List.take_add_one, hf, Option.toList_some]
    rw [splitK, hf]
    simp only
    cases h : isSep s f with
    | true =>
      rw [if_pos rfl]
      simp only
      rw [joinA_snoc, List.append_nil, if_neg (by simp)]
      refine alikeF_app true ih ?_
      have hm : (isSep s f && (!(f.tok.num == 0) || !(f.kids.isEmpty))) = false := by
        unfold signP at hs
        rw [List.any_eq_false] at hs
        simpa using hs f (List.mem_of_getElem? hf)
      rw [h] at hm
      simp only [Bool.true_and, Bool.or_eq_false_iff, Bool.not_eq_false', beq_iff_eq, List.isEmpty_iff] at hm
      exact alike_sep h hm.1 hm.2
    | false =>
      simp only [Bool.false_eq_true, if_false]
      rw [joinA_snoc] at ih ⊢
      rw [← List.append_assoc]
      refine alikeF_app true ih ?_
      rw [alikeF_cons]
      simp only [Bool.and_eq_true]
      exact ⟨by simp [alikeT], by simp, alikeF_self true _ _ (Nat.lt_succ_self _), by simp [alikeF]⟩
theorem joinA_len (s : ByteArray) (l : List Fr) : ∀ k, k ≤ l.length → (joinA s ((splitK s l k).1 ++ [(splitK s l k).2])).length = k
  | 0, _ => by rw [joinA_snoc]; simp [splitK, joinA, joinK]
  | k + 1, hk => by
    have ih := joinA_len s l k (by omega)
    obtain ⟨f, hf⟩ : ∃ f, l[k]? = some f := ⟨_, List.getElem?_eq_getElem hk⟩
    rw [splitK, hf]
    simp only
    cases h : isSep s f with
    | true =>
      rw [if_pos rfl]
      simp only
      rw [joinA_snoc, List.append_nil, if_neg (by simp), List.length_append, ih]; rfl
    | false =>
      simp only [Bool.false_eq_true, if_false]
      rw [joinA_snoc] at ih ⊢
      rw [← List.append_assoc, List.length_append, ih]; rfl
end Go.Proofs.YtopbmndjnjnmcaaGreatDoor
namespace Go.Proofs.YtopbmndjnjnmcaaGreatDoor
open Go.RowKit Lx Go.Sort
/- (P2) -/
attribute [local go_sem] Oper.semAt_some
theorem FrAt.take {W : World} {S : Nat → Prop} : ∀ {l : List Fr} {g o : Nat} (i : Nat), FrAt W S g o l → FrAt W S g o (l.take i)
  | [], g, o, i, _ => by rw [List.take_nil]; exact .nil _ _
  | f :: l, g, o, 0, _ => by rw [List.take_zero]; exact .nil _ _
  | f :: l, g, o, i + 1, h => by
    rw [List.take_succ_cons]
    cases h with
    | cons hs hg h0 h1 h2 h3 h4 h5 h6 hm ha hk hl => exact .cons hs hg h0 h1 h2 h3 h4 h5 h6 hm ha hk (hl.take i)
theorem FrAt.drop {W : World} {S : Nat → Prop} : ∀ {l : List Fr} {g o : Nat} (i : Nat), FrAt W S g o l → FrAt W S g (o + i * 7) (l.drop i)
  | [], g, o, i, _ => by rw [List.drop_nil]; exact .nil _ _
  | f :: l, g, o, 0, h => by simpa using h
  | f :: l, g, o, i + 1, h => by
    rw [List.drop_succ_cons]
    cases h with
    | cons hs hg h0 h1 h2 h3 h4 h5 h6 hm ha hk hl =>
      have := hl.drop i
      rw [show o + (i + 1) * 7 = o + 7 + i * 7 by omega]
      exact this
theorem FrRead.takeS {W : World} {S : Nat → Prop} {a : Option Addr} {c : Nat} {l : List Fr} (h : FrRead W S (.slice a l.length c) l) (i : Nat) (hi : i ≤ l.length) : FrRead W S (.slice a i c) (l.take i) := by
  obtain ⟨a', c', g, o, hv, hm, ha, hat⟩ := h
  cases hv
  have hl : (l.take i).length = i := by rw [List.length_take]; omega
  refine ⟨a, c, g, o, by rw [hl], by rw [hl]; omega, fun hne => ha fun h0 => hne (by rw [h0, List.take_nil]), hat.take i⟩
theorem FrRead.dropS {W : World} {S : Nat → Prop} {g o c : Nat} {l : List Fr} (h : FrRead W S (.slice (some ⟨g, o, none⟩) l.length c) l) (hne : l ≠ []) (i : Nat) (hi : i ≤ l.length) : FrRead W S (.slice (some ⟨g, o + i * 7, none⟩) (l.length - i) (c - i)) (l.drop i) := by
  obtain ⟨a', c', g', o', hv, hm, ha, hat⟩ := h
  cases hv
  cases ha hne
  have hl : (l.drop i).length = l.length - i := by rw [List.length_drop]
  exact ⟨_, _, g, o + i * 7, by rw [hl], by rw [hl]; omega, fun _ => rfl, hat.drop i⟩
theorem flat_take_mono (ps : List (List Fr)) : ∀ (k j : Nat), ((ps.take k).flatten).length ≤ ((ps.take (k + j)).flatten).length
  | k, 0 => Nat.le_refl _
  | k, j + 1 => by
    refine Nat.le_trans (flat_take_mono ps k j) ?_
    rw [show k + (j + 1) = (k + j) + 1 by omega, List.take_add_one, List.flatten_append, List.length_append]
    omega
theorem flat_take_le (ps : List (List Fr)) (k : Nat) : ((ps.take k).flatten).length ≤ ps.flatten.length := by
  rcases Nat.lt_or_ge k ps.length with h | h
  · have := flat_take_mono ps k (ps.length - k)
    rw [show k + (ps.length - k) = ps.length by omega, List.take_length] at this
    exact this
  · rw [List.take_of_length_le h]; exact Nat.le_refl _
set_option maxRecDepth 100000 in
set_option maxHeartbeats 8000000 in
/-- slices.Grow of no slice -/
theorem grow_any (n : Nat) (w : World) (hn : n * 88 ≤ 140737488355328) :
    Calls Tryz.prog 119 #[.slice none 0 0, .int .i64 n] w fun e W => ∃ v', e = .returned v' ∧ W.ownsRow w.heap.size 52 7 v' 0 [] ∧ Below w.heap.size w W := by
  obtain ⟨i0, hi0, hz0, hz1, hz2⟩ := info_parts info52
  by_cases h0 : n = 0
  · subst h0
    go_enter Tryz.func119, Tryz.ntmps119
    go_wp2_with fail
    go_ret
    exact ⟨_, rfl, World.ownsRow_nil _ _ _ _, Below.refl _ _⟩
  · have hr := Lib.run_append_nil_zeros (P := Tryz.prog) w 25 3 25 52 i0 _ .i64 .i64 Tryz.underlying25 Tryz.underlying3 hi0 hz0 n (by omega) (by omega) (by omega) (by rw [hz2]; omega)
    have d1 : (0 : Int) < (n : Int) := by omega
    have d2 : ¬ ((n : Int) < 0) := by omega
    have HR := Lib.hid hr
    clear hr
    go_enter Tryz.func119, Tryz.ntmps119
    go_wp2_with (at_builtin; refine Lib.wpList_append_run _ rfl _ _ _ _ rfl _ _ (by rfl) (by rfl) _ _ HR.out ?_)
    go_wp2
    go_ret
    refine ⟨_, rfl, ?_, ((Below.refl _ w).alloc (Nat.le_refl _) _).drew⟩
    have hcap := grownCap_le_maxLen w n 0 52 (by unfold maxLen; omega)
    have hge := grownCap_ge w n 0 52
    refine owns_bl' (W := w.alloc (.cells (Builtin.zeroCells zFrag.toArray n ++ Builtin.zeroCells zFrag.toArray (grownCap w n 0 52 - n)) 52)) (World.ownsRow_made (e := 52) (size := 7) w _ _ (Nat.le_refl _) hcap ?_) (Below.refl _ _).drew
    rw [Array.size_append, size_zeroCells, size_zeroCells]
    simp only [zFrag, List.size_toArray, List.length_cons, List.length_nil]
    omega
end Go.Proofs.YtopbmndjnjnmcaaGreatDoor
namespace Go.Proofs.YtopbmndjnjnmcaaGreatDoor
open Go.RowKit Lx Go.Sort
/- (P4) -/
attribute [local go_sem] Oper.semAt_some
theorem flat_take_succ {ps : List (List Fr)} {k : Nat} {p : List Fr} (h : ps[k]? = some p) : (ps.take (k + 1)).flatten = (ps.take k).flatten ++ p := by
  rw [List.take_add_one, h, Option.toList_some, List.flatten_append]
  simp
theorem wrap_add {n p m : Nat} (h : n + p ≤ m) (hm : m * 88 ≤ 140737488355328) : wrap64 ((n : Int) + (p : Int)) = n + p := by
  unfold wrap64; omega
theorem add_nn (n p : Nat) : (0 : Int) ≤ (n : Int) + (p : Int) := by omega
theorem add_nl (n p : Nat) : ¬ ((n : Int) + (p : Int) < 0) := by omega
set_option maxRecDepth 100000 in
set_option maxHeartbeats 16000000 in
/-- slices.Concat of fragments -/
theorem concat_any (S : Nat → Prop) (ps : List (List Fr)) (v : Value) (w : World) (hr : PcRead w S v ps) (hb : ps.flatten.length * 88 ≤ 140737488355328) :
    Calls Tryz.prog 96 #[v] w fun e W => ∃ v', e = .returned v' ∧ OwnL w.heap.size ps.flatten v' W ∧ Below w.heap.size w W := by
  obtain ⟨i0, hi0, hz0, hz1, hz2⟩ := info_parts info52
  have HR := Lib.hid hr
  have HB := Lib.hid hb
  obtain ⟨pa, pc, rfl, hm, h9⟩ := hr
  unfold maxLen at hm
  clear h9 hb
  go_enter Tryz.func96, Tryz.ntmps96
  go_wp2_with fail
  go_loopw [3, 11] (fun y x wr => ∃ k : Nat, k ≤ ps.length ∧ x = .int .i64 k ∧ (∃ n : Nat, y = .int .i64 n ∧ Hid ((ps.take k).flatten.length = n)) ∧ wr = w) (fun _ x _ => ps.length - (intOf x).toNat)
  case atStart => exact ⟨0, by omega, rfl, ⟨0, rfl, Lib.hid rfl⟩, rfl⟩
  case round =>
    obtain ⟨k, hk, rfl, ⟨n, rfl, HN⟩, hw9⟩ := hrel
    have hw9 := hw9.symm
    subst hw9
    by_cases hlt : k < ps.length
    · obtain ⟨p, hp⟩ : ∃ p, ps[k]? = some p := ⟨_, List.getElem?_eq_getElem hlt⟩
      have k1 : (k : Int) < (ps.length : Int) := by omega
      obtain ⟨g, o, kv, hpa, hg, hc, _, hrd⟩ : ∃ g o kv, pa = some ⟨g, o, none⟩ ∧ g < w.heap.size ∧ w.cell? ⟨g, o + k, none⟩ = some kv ∧ (∀ n c, kv = .slice none n c → c = 0) ∧ FrRead w S kv p := by
        obtain ⟨a, c, hv, _, h⟩ := HR.out
        cases hv
        exact h k p hp
      subst hpa
      obtain ⟨ka, kc, hkf⟩ : ∃ a c, kv = .slice a p.length c := by obtain ⟨a, c, _, _, h, _⟩ := hrd; exact ⟨a, c, h⟩
      subst hkf
      have hst := congrArg List.length (flat_take_succ hp)
      rw [List.length_append, HN.out] at hst
      have hle := flat_take_le ps (k + 1)
      rw [hst] at hle
      have hw64 : wrap64 ((n : Int) + (p.length : Int)) = n + p.length := wrap_add hle HB.out
      have hw65 := add_nl n p.length
      have hw66 := add_nn n p.length
      have HST := Lib.hid hst
      clear hst hle hrd hp hg
      go_wp2_with fail
      go_roundw
      case rel => exact ⟨k + 1, by omega, by go_num, ⟨n + p.length, by go_num, HST⟩, trivial⟩
      case measure => simp [intOf]; omega
    · obtain rfl : k = ps.length := by omega
      have hn := HN.out
      rw [List.take_length] at hn
      have HNN := Lib.hid hn
      have HNB : Hid (n * 88 ≤ 140737488355328) := Lib.hid (by rw [← hn]; exact HB.out)
      clear hn
      go_wp2_with fail
      go_at_call 119
      refine (grow_any n w HNB.out).mono ?_
      rintro e W1 ⟨v1, rfl, hown, hbel⟩
      obtain ⟨ya, yc, rfl⟩ := own_form' hown
      have HO1 : Hid (OwnL w.heap.size [] (.slice ya 0 yc) W1) := Lib.hid ⟨[], hown, rfl⟩
      have HB1 := Lib.hid hbel
      clear hown hbel
      go_wp2_with fail
      go_loopw [6, 27] (fun y x wr => ∃ k : Nat, k ≤ ps.length ∧ x = .int .i64 k ∧ (∃ a c, y = .slice a ((ps.take k).flatten).length c) ∧ Hid (OwnL w.heap.size (ps.take k).flatten y wr ∧ Below w.heap.size w wr)) (fun _ x _ => ps.length - (intOf x).toNat)
      case atStart => exact ⟨0, by omega, rfl, ⟨ya, yc, rfl⟩, Lib.hid ⟨HO1.out, HB1.out⟩⟩
      case round =>
        obtain ⟨k, hk, rfl, ⟨ya, yc, rfl⟩, HI⟩ := hrel
        by_cases hlt : k < ps.length
        · obtain ⟨p, hp⟩ : ∃ p, ps[k]? = some p := ⟨_, List.getElem?_eq_getElem hlt⟩
          have k1 : (k : Int) < (ps.length : Int) := by omega
          obtain ⟨hown, hbel⟩ := HI.out
          obtain ⟨g, o, kv, hpa, hg, hc, hn, hrd⟩ : ∃ g o kv, pa = some ⟨g, o, none⟩ ∧ g < w.heap.size ∧ w.cell? ⟨g, o + k, none⟩ = some kv ∧ (∀ n c, kv = .slice none n c → c = 0) ∧ FrRead w S kv p := by
            obtain ⟨a, c, hv, _, h⟩ := HR.out
            cases hv
            exact h k p hp
          subst hpa
          have hc' := (hbel.cell (p := ⟨g, o + k, none⟩) hg).trans hc
          obtain ⟨ka, kc, hkf⟩ : ∃ a c, kv = .slice a p.length c := by obtain ⟨a, c, _, _, h, _⟩ := hrd; exact ⟨a, c, h⟩
          subst hkf
          have HRD := Lib.hid hrd
          have HST := Lib.hid (flat_take_succ hp)
          have HN9 : Hid (ka = none → kc = 0) := Lib.hid (fun h => hn p.length kc (by rw [h]))
          obtain ⟨L, hL⟩ : ∃ L, (ps.take k).flatten = L := ⟨_, rfl⟩
          rw [hL] at HST
          have hle := flat_take_le ps (k + 1)
          rw [HST.out, List.length_append] at hle
          have HLE : Hid ((L.length + p.length) * 88 ≤ 140737488355328) := Lib.hid (by have := HB.out; omega)
          have HJ5 : Hid (L.length + p.length = ((ps.take (k + 1)).flatten).length) := Lib.hid (by rw [HST.out, List.length_append])
          have HS3 : Hid (Src wr (.slice ya L.length yc) p ka kc) := Lib.hid (by rw [← hL]; exact Src.arg HRD.out HN9.out HI.out.2 (Nat.le_refl _) HI.out.1)
          have HO3 : Hid (OwnL w.heap.size L (.slice ya L.length yc) wr) := Lib.hid (by rw [← hL]; exact HI.out.1)
          have HB3 := Lib.hid HI.out.2
          rw [hL]
          clear hown hbel hc hrd hp hn hle hL HI
          go_wp2_with (at_builtin; refine wpList_app rfl _ _ rfl w.heap.size (.slice ya L.length yc) L p (by rfl) HO3.out ka kc (by rfl) HS3.out ?qc5 ?qc6 ?_)
          case qc5 => exact HLE.out
          case qc6 => exact HB3.out.size
          intro a4 c4 w4 g1 g2
          rw [← HST.out, HJ5.out] at g1
          rw [HJ5.out]
          have HO4 := Lib.hid g1
          have HB4 := Lib.hid (below_grown HB3.out (Nat.le_refl _) g2 (fun b hb => by obtain ⟨xs, h, _⟩ := HO3.out; exact (owned_cells h hb).1))
          clear g1 g2
          go_wp2_with fail
          go_roundw
          case rel => exact ⟨k + 1, by omega, by go_num, ⟨_, _, rfl⟩, Lib.hid ⟨HO4.out, HB4.out⟩⟩
          case measure => simp [intOf]; omega
        · obtain rfl : k = ps.length := by omega
          have hf : ps.take ps.length = ps := List.take_length
          go_wp2_with fail
          go_ret
          exact ⟨_, rfl, by have := HI.out.1; rw [hf] at this; rw [hf]; exact this, HI.out.2⟩
end Go.Proofs.YtopbmndjnjnmcaaGreatDoor
namespace Go.Proofs.YtopbmndjnjnmcaaGreatDoor
open Go.RowKit Lx Go.Sort
/- (P5) -/
attribute [local go_sem] Oper.semAt_some
/-- A path in memory. -/
def IntsAt (W : World) (v : Value) (p : List Int) : Prop := ∃ a c, v = .slice a p.length c ∧ p.length ≤ maxLen ∧ ∀ k i, p[k]? = some i → ∃ g o, a = some ⟨g, o, none⟩ ∧ g < W.heap.size ∧ W.cell? ⟨g, o + k, none⟩ = some (.int .i64 i)
theorem IntsAt.bl {W W' : World} {v : Value} {p : List Int} (h : IntsAt W v p) (hb : Below W.heap.size W W') : IntsAt W' v p := by
  obtain ⟨a, c, hv, hm, hp⟩ := h
  refine ⟨a, c, hv, hm, fun k i hk => ?_⟩
  obtain ⟨g, o, ha, hg, hc⟩ := hp k i hk
  exact ⟨g, o, ha, Nat.lt_of_lt_of_le hg hb.size, (hb.cell (p := ⟨g, o + k, none⟩) hg).trans hc⟩
theorem boxed_bl {W W' : World} {b : Nat} {t : TypeId} {v : Value} (h : Boxed W b t v) (hb : Below W.heap.size W W') : Boxed W' b t v := (hb.block b h.lt).trans h
/-- A function that stands for the first numbers of a path. -/
def cloV (b9 b8 b11 b10 : Nat) : Value := .func (.func 95) #[] #[.pointer (some ⟨b9, 0, none⟩), .pointer (some ⟨b8, 0, none⟩), .pointer (some ⟨b11, 0, none⟩), .pointer (some ⟨b10, 0, none⟩)]
def PutC (W : World) (K : Nat → Prop) (l : List Fr) (path : List Int) : Nat → Value → Prop
  | 0, fv => fv = .nilFunc
  | k + 1, fv => ∃ (b9 b8 b11 b10 : Nat) (x : List Fr × Fr) (la : Option Addr) (lc : Nat) (pv : Value) (pa : Option Addr) (pn pc : Nat), folP l path k = some x ∧ (∃ f, stepP x.1 (path.getD k 0) = some f) ∧ fv = cloV b9 b8 b11 b10 ∧ (K b9 ∧ K b8 ∧ K b11 ∧ K b10) ∧
      Boxed W b9 25 (.slice la x.1.length lc) ∧ FrRead W K (.slice la x.1.length lc) x.1 ∧ Boxed W b8 3 (.int .i64 (path.getD k 0)) ∧ Boxed W b11 88 pv ∧
      W.heap[b10]? = some (.cells #[.int .i64 x.2.tok.kind, .int .i64 x.2.tok.num, .string x.2.tok.text, .int .i64 x.2.tok.at_, .int .i64 x.2.tok.mark, .string x.2.op, .slice pa pn pc] 52 (0, 0)) ∧ PutC W K l path k pv
theorem PutC.keep {W W' : World} {K K' : Nat → Prop} {l : List Fr} {path : List Int} (hk : ∀ b, K b → b < W.heap.size → W'.heap[b]? = W.heap[b]? ∧ K' b) : ∀ {k : Nat} {fv : Value}, PutC W K l path k fv → PutC W' K' l path k fv
  | 0, _, h => h
  | k + 1, fv, h => by
    obtain ⟨b9, b8, b11, b10, x, la, lc, pv, pa, pn, pc, hx, hf, he, ⟨k9, k8, k11, k10⟩, h9, hr, h8, h11, h10, hp⟩ := h
    have l10 := (Array.getElem?_eq_some_iff.1 h10).1
    exact ⟨b9, b8, b11, b10, x, la, lc, pv, pa, pn, pc, hx, hf, he, ⟨(hk _ k9 h9.lt).2, (hk _ k8 h8.lt).2, (hk _ k11 h11.lt).2, (hk _ k10 l10).2⟩, ((hk _ k9 h9.lt).1).trans h9, hr.keep hk, ((hk _ k8 h8.lt).1).trans h8, ((hk _ k11 h11.lt).1).trans h11, ((hk _ k10 l10).1).trans h10, hp.keep hk⟩
theorem PutC.bl {W W' : World} {K : Nat → Prop} {l : List Fr} {path : List Int} (hb : Below W.heap.size W W') {k : Nat} {fv : Value} (h : PutC W K l path k fv) : PutC W' K l path k fv := h.keep fun b hs hlt => ⟨hb.block b hlt, hs⟩
theorem OwnL.mono {base base' : Nat} {l : List Fr} {v : Value} {W : World} (h : OwnL base l v W) (hb : base' ≤ base) : OwnL base' l v W := by
  obtain ⟨xs, h1, h2⟩ := h
  refine ⟨xs, ?_, h2⟩
  obtain ⟨hl, h | ⟨g, cap, cur, hv, hg, h⟩⟩ := h1
  · exact ⟨hl, .inl h⟩
  · exact ⟨hl, .inr ⟨g, cap, cur, hv, Nat.le_trans hb hg, h⟩⟩
theorem folP_lens {l : List Fr} {path : List Int} (hl : Lens l) : ∀ {k : Nat} {x : List Fr × Fr}, folP l path k = some x → Lens x.1
  | 0, x, h => by cases h; exact hl
  | k + 1, x, h => by
    rw [folP] at h
    cases hf : folP l path k with
    | none => rw [hf] at h; cases h
    | some y =>
      rw [hf] at h
      simp only [Option.bind_some, Option.map_eq_some_iff] at h
      obtain ⟨f, hs, rfl⟩ := h
      exact LensK.at (folP_lens hl hf).2 (stepP_some hs).2.2
theorem pc_three {S S2 S3 : Nat → Prop} {p1 p2 p3 : List Fr} {v1 v2 v3 : Value} {W : World} (hr1 : FrRead W S v1 p1) (hr2 : FrRead W S2 v2 p2) (hr3 : FrRead W S3 v3 p3) (hn1 : ∀ n c, v1 = .slice none n c → c = 0) (hn2 : ∀ n c, v2 = .slice none n c → c = 0) (hn3 : ∀ n c, v3 = .slice none n c → c = 0) :
    PcRead (W.alloc (.cells #[v1, v2, v3] 25)) (fun _ => True) (.slice (some ⟨W.heap.size, 0, none⟩) 3 3) [p1, p2, p3] := by
  have hba := (Below.refl W.heap.size W).alloc (Nat.le_refl _) (.cells #[v1, v2, v3] 25)
  have hN := heap_alloc_new W (.cells #[v1, v2, v3] 25)
  have hs : W.heap.size < (W.alloc (.cells #[v1, v2, v3] 25)).heap.size := by rw [World.size_alloc]; omega
  have hc : ∀ i u, (#[v1, v2, v3] : Array Value)[i]? = some u → (W.alloc (.cells #[v1, v2, v3] 25)).cell? ⟨W.heap.size, 0 + i, none⟩ = some u := fun i u hi => by
    rw [cell_of_row _ _ _ _ _ _ hN, Nat.zero_add]; exact hi
  refine ⟨some ⟨W.heap.size, 0, none⟩, 3, rfl, by simp [maxLen], fun k p hk => ?_⟩
  match k, hk with
  | 0, hk => cases hk; exact ⟨_, 0, v1, rfl, hs, hc 0 v1 rfl, hn1, (hr1.bl hba).all⟩
  | 1, hk => cases hk; exact ⟨_, 0, v2, rfl, hs, hc 1 v2 rfl, hn2, (hr2.bl hba).all⟩
  | 2, hk => cases hk; exact ⟨_, 0, v3, rfl, hs, hc 2 v3 rfl, hn3, (hr3.bl hba).all⟩
  | k + 3, hk => simp at hk
theorem repl_len1 {l : List Fr} {n : Nat} (g : Fr) (h : n < l.length) : (repl l (n : Int) [g]).length = l.length := by
  unfold repl
  simp only [Int.toNat_natCast, List.length_append, List.length_take, List.length_drop, List.length_cons, List.length_nil]
  omega
/-- One fragment in a block of its own. -/
theorem one_read {W : World} {R : List Fr} {y : Value} (f : Fr) (hr : FrRead W (fun _ => True) y R) :
    FrRead (W.alloc (.cells #[.int .i64 f.tok.kind, .int .i64 f.tok.num, .string f.tok.text, .int .i64 f.tok.at_, .int .i64 f.tok.mark, .string f.op, y] 52)) (fun _ => True) (.slice (some ⟨W.heap.size, 0, none⟩) 1 1) [withK f R] := by
  have hba := (Below.refl W.heap.size W).alloc (Nat.le_refl _) (.cells #[.int .i64 f.tok.kind, .int .i64 f.tok.num, .string f.tok.text, .int .i64 f.tok.at_, .int .i64 f.tok.mark, .string f.op, y] 52)
  have hown := World.ownsRow_lit (base := 0) (e := 52) (size := 7) W #[.int .i64 f.tok.kind, .int .i64 f.tok.num, .string f.tok.text, .int .i64 f.tok.at_, .int .i64 f.tok.mark, .string f.op, y] 1 (Nat.zero_le _) (by unfold maxLen; omega) rfl
  exact kids_read (l := [withK f R]) hown rfl ⟨y, [], by simp [frC, withK, Fr.tok, Fr.op], hr.bl hba, rfl⟩ (fun _ _ _ => trivial) (fun _ _ => trivial)
end Go.Proofs.YtopbmndjnjnmcaaGreatDoor
namespace Go.Proofs.YtopbmndjnjnmcaaGreatDoor
open Go.RowKit Lx Go.Sort
/- (P6) -/
attribute [local go_sem] Oper.semAt_some
theorem under88 : Tryz.prog.underlying 88 = some (.func #[25] #[25] true) := by kernel_rfl
theorem eql_nilF (V : World) : (Go.binOp .eql 88 .nilFunc .nilFunc).run Tryz.prog V = .ok (.bool true) V := by
  have h : ∀ d : Nat, (Op.equalIn (d + 1) 88 .nilFunc .nilFunc).run Tryz.prog V = .ok true V := fun d => by simp [Op.equalIn, run_underlying under88]
  simp only [Go.binOp]
  simp [Op.equal, Op.maxDepth, h 9999]
theorem eql_funcN (V : World) (f : Fn) (a c : Array Value) : (Go.binOp .eql 88 (.func f a c) .nilFunc).run Tryz.prog V = .ok (.bool false) V := by
  have h : ∀ d : Nat, (Op.equalIn (d + 1) 88 (.func f a c) .nilFunc).run Tryz.prog V = .ok false V := fun d => by simp [Op.equalIn, run_underlying under88]
  simp only [Go.binOp]
  simp [Op.equal, Op.maxDepth, h 9999]
theorem slice_from (V : World) (g o m c n : Nat) (h : n + 1 ≤ m) : (Instr.slice 25 (.slice (some ⟨g, o, none⟩) m c) (some (.int .i64 ((n : Int) + 1))) none none).run Tryz.prog V =
    .ok (.slice (some (if c = n + 1 then ⟨g, o, none⟩ else ⟨g, o + (n + 1) * 7, none⟩)) (m - (n + 1)) (c - (n + 1))) V := by
  obtain ⟨i0, hi0, hz0, hz1, hz2⟩ := info_parts info52
  have he : Tryz.prog.elem 25 = 52 := by kernel_rfl
  have h1 := run_slice_l (P := Tryz.prog) (w := V) 25 (some ⟨g, o, none⟩) m c (by rw [he]; exact Tryz.underlying25) .i64 ((n : Int) + 1) (by omega) (by omega)
  rw [h1, he]
  have h2 : (sizeOf 52).run Tryz.prog V = .ok 7 V := by simp [sizeOf, typeInfo, hi0, hz1]
  rw [h2]
  simp only [Result.andThen, sliced, show ((n : Int) + 1).toNat = n + 1 by omega]
  by_cases hc : c = n + 1
  · simp [hc]
  · simp [hc, Addr.add]
theorem FrRead.dropA {W : World} {S : Nat → Prop} {g o c : Nat} {l : List Fr} (h : FrRead W S (.slice (some ⟨g, o, none⟩) l.length c) l) (hne : l ≠ []) (i : Nat) (hi : i ≤ l.length) (ga : Addr) (hg : i < l.length → ga = ⟨g, o + i * 7, none⟩) : FrRead W S (.slice (some ga) (l.length - i) (c - i)) (l.drop i) := by
  obtain ⟨a', c', g', o', hv, hm, ha, hat⟩ := h
  cases hv
  cases ha hne
  have hl : (l.drop i).length = l.length - i := by rw [List.length_drop]
  refine ⟨_, _, g, o + i * 7, by rw [hl], by rw [hl]; omega, fun h0 => ?_, hat.drop i⟩
  rw [hg (by rcases Nat.lt_or_ge i l.length with h9 | h9; exact h9; exact absurd (List.drop_eq_nil_of_le h9) h0)]
set_option maxRecDepth 100000 in
set_option maxHeartbeats 16000000 in
theorem putC_step (K : Nat → Prop) (l : List Fr) (path : List Int) (hl : Lens l) (k b9 b8 b11 b10 : Nat) (S : Nat → Prop) (bs : List Fr) (vb : Value) (W : World) (hc : PutC W K l path (k + 1) (cloV b9 b8 b11 b10)) (hr : FrRead W S vb bs) (hn : ∀ n c, vb = .slice none n c → c = 0)
    (hb : ∀ x, folP l path k = some x → (repl x.1 (path.getD k 0) bs).length * 88 ≤ 140737488355328)
    (ih : ∀ (j : Nat), k = j + 1 → ∀ (b9 b8 b11 b10 : Nat) (bs : List Fr) (vb : Value) (W : World), PutC W K l path (j + 1) (cloV b9 b8 b11 b10) → FrRead W (fun _ => True) vb bs → (∀ n c, vb = .slice none n c → c = 0) →
      (∀ x, folP l path j = some x → (repl x.1 (path.getD j 0) bs).length * 88 ≤ 140737488355328) →
      Calls Tryz.prog 95 #[vb, .pointer (some ⟨b9, 0, none⟩), .pointer (some ⟨b8, 0, none⟩), .pointer (some ⟨b11, 0, none⟩), .pointer (some ⟨b10, 0, none⟩)] W fun e W' => ∃ v', e = .returned v' ∧ OwnL W.heap.size (putK l path (j + 1) bs) v' W' ∧ Below W.heap.size W W') :
    Calls Tryz.prog 95 #[vb, .pointer (some ⟨b9, 0, none⟩), .pointer (some ⟨b8, 0, none⟩), .pointer (some ⟨b11, 0, none⟩), .pointer (some ⟨b10, 0, none⟩)] W fun e W' => ∃ v', e = .returned v' ∧ OwnL W.heap.size (putK l path (k + 1) bs) v' W' ∧ Below W.heap.size W W' := by
  obtain ⟨b9', b8', b11', b10', x, la, lc, pv, pa, pn, pc, hx, ⟨f, hf⟩, he, _, h9, hrx, h8, h11, h10, hp⟩ := hc
  obtain ⟨rfl, rfl, rfl, rfl⟩ : b9 = b9' ∧ b8 = b8' ∧ b11 = b11' ∧ b10 = b10' := by
    unfold cloV at he
    simp only [Value.func.injEq, Array.mk.injEq, List.cons.injEq, Value.pointer.injEq, Option.some.injEq, Addr.mk.injEq, and_true, true_and] at he
    simpa using he
  obtain ⟨xl, xf⟩ := x
  simp only at hf h9 hrx h10
  obtain ⟨i0, i1, i2⟩ := stepP_some hf
  obtain ⟨n, hnn⟩ : ∃ n : Nat, path.getD k 0 = n := ⟨_, (Int.toNat_of_nonneg i0).symm⟩
  rw [hnn] at h8 i1 i2 hf
  simp only [Int.toNat_natCast] at i1 i2
  have hbx := hb _ hx
  rw [hnn] at hbx
  have hne : xl ≠ [] := by intro h; rw [h] at i1; simp at i1
  have hml : xl.length ≤ maxLen ∧ xl.length ≤ lc := by obtain ⟨_, _, _, _, h, hm, _⟩ := hrx; cases h; exact hm
  obtain ⟨g, o, rfl⟩ : ∃ g o, la = some ⟨g, o, none⟩ := by obtain ⟨_, _, g, o, h, _, ha, _⟩ := hrx; cases h; exact ⟨g, o, ha hne⟩
  obtain ⟨R, hR⟩ : ∃ R, repl xl (n : Int) bs = R := ⟨_, rfl⟩
  have hpk : putK l path (k + 1) bs = if k = 0 then R else putK l path k [withK xf R] := by rw [putK, hx]; simp only [hnn, hR]
  rw [hR] at hbx
  have HPK := Lib.hid hpk
  rw [hpk]
  obtain ⟨ba, bc, rfl⟩ : ∃ a c, vb = .slice a bs.length c := by obtain ⟨a, c, _, _, h, _⟩ := hr; exact ⟨a, c, h⟩
  obtain ⟨ga, hsl, hga⟩ : ∃ ga : Addr, (∀ V : World, (Instr.slice 25 (.slice (some ⟨g, o, none⟩) xl.length lc) (some (.int .i64 ((n : Int) + 1))) none none).run Tryz.prog V = .ok (.slice (some ga) (xl.length - (n + 1)) (lc - (n + 1))) V) ∧ (n + 1 < xl.length → ga = ⟨g, o + (n + 1) * 7, none⟩) := by
    refine ⟨if lc = n + 1 then ⟨g, o, none⟩ else ⟨g, o + (n + 1) * 7, none⟩, fun V => slice_from V g o xl.length lc n (by omega), fun h => if_neg (by omega)⟩
  have hd3 := hrx.dropA hne (n + 1) (by omega) ga hga
  have hp3 := pc_three (W := W) (hrx.takeS n (by omega)) hr hd3 (fun n c h => by cases h) hn (fun n c h => by cases h)
  have hfl : ([xl.take n, bs, xl.drop (n + 1)] : List (List Fr)).flatten = R := by rw [← hR]; simp [repl]
  have HCC := Lib.hid (concat_any (fun _ => True) _ _ _ (hp3.bl (Below.refl _ _).drew) (by rw [hfl]; exact hbx))
  rw [hfl] at HCC
  have hba := (Below.refl W.heap.size W).alloc (Nat.le_refl _) (.cells #[.slice (some ⟨g, o, none⟩) n lc, .slice ba bs.length bc, .slice (some ga) (xl.length - (n + 1)) (lc - (n + 1))] 25)
  have HBA := Lib.hid hba.drew
  have c9 := h9.cell
  have c8 := h8.cell
  have H11 := Lib.hid h11
  have H10 := Lib.hid h10
  have HPV := Lib.hid hp
  have HL := Lib.hid hl
  have HX := Lib.hid hx
  have HI1 := Lib.hid i1
  have hnm : n + 1 ≤ 9223372036854775807 := by have := hml.1; unfold maxLen at this; omega
  have hw64 : wrap64 ((n : Int) + 1) = n + 1 := by
    have := hml.1
    unfold maxLen at this
    unfold wrap64; omega
  have hwk : IntKind.i64.wrap ((n : Int) + 1) = n + 1 := by rw [IntKind.wrap_i64]; omega
  have j1 : (n : Int) < (xl.length : Int) := by omega
  have j2 : (n : Int) ≤ (lc : Int) := by omega
  have j3 : ((n : Int) + 1) ≤ (xl.length : Int) := by omega
  have j4 : (0 : Int) ≤ (n : Int) + 1 := by omega
  have j5 : n ≤ lc := by omega
  have j6 : n + 1 ≤ xl.length := by omega
  have j7 : xl.length ≤ lc := hml.2
  clear hfl hga hd3 hp3 hba h11 h10 hp hl hx hb hr hn hrx hpk hR hbx i0 i2 hf hne
  go_enter Tryz.func95, Tryz.ntmps95
  go_upto_region 1 with fail
  go_cut [7] from 9 to 18 (fun y wx => (∃ a c, y = .slice a R.length c) ∧ Hid (OwnL W.heap.size R y wx ∧ Below W.heap.size W wx))
  case first =>
    go_region_law (first
      | (go_simp; go_at_call 96; refine HCC.out.mono ?_; rintro e W3 ⟨v3, rfl, ho3, hb3⟩))
    all_goals
      go_wp2_with fail
      go_meet
      have ho3' := ho3.mono (base' := W.heap.size) HBA.out.size
      exact ⟨ho3'.form, Lib.hid ⟨ho3', HBA.out.trans (hb3.mono HBA.out.size)⟩⟩
  case rest =>
    obtain ⟨⟨ya, yc, rfl⟩, HW⟩ := hcut
    have c11 := (boxed_bl H11.out HW.out.2).cell
    obtain ⟨z0, z1, z2, z3, z4, z5, z6⟩ := fr_cells ((HW.out.2.block b10 (Array.getElem?_eq_some_iff.1 H10.out).1).trans H10.out)
    clear c9 c8 h9 h8 hsl j1 j2 j3 j4 j5 j6 j7
    cases k with
    | zero =>
      obtain rfl : pv = .nilFunc := HPV.out
      have qn := eql_nilF
      go_wp2_with fail
      go_ret
      exact ⟨_, rfl, HW.out.1, HW.out.2⟩
    | succ j =>
      obtain ⟨d9, d8, d11, d10, x', la', lc', pv', pa', pn', pc', hx', ⟨f', hf'⟩, he', _⟩ := HPV.out
      subst he'
      have hpc := HPV.out
      have hbd : ∀ x, folP l path j = some x → (repl x.1 (path.getD j 0) [withK xf R]).length * 88 ≤ 140737488355328 := fun x hx => by
        rw [hx'] at hx
        cases hx
        obtain ⟨q0, q1, _⟩ := stepP_some hf'
        have := repl_len1 (l := x'.1) (n := (path.getD j 0).toNat) (withK xf R) q1
        rw [Int.toNat_of_nonneg q0] at this
        rw [this]
        exact (folP_lens HL.out hx').1
      have hb2 := (Below.refl wc.heap.size wc).alloc (Nat.le_refl _) (.cells #[.int .i64 xf.tok.kind, .int .i64 xf.tok.num, .string xf.tok.text, .int .i64 xf.tok.at_, .int .i64 xf.tok.mark, .string xf.op, .slice ya R.length yc] 52)
      have hN := heap_alloc_new wc (.cells #[.int .i64 xf.tok.kind, .int .i64 xf.tok.num, .string xf.tok.text, .int .i64 xf.tok.at_, .int .i64 xf.tok.mark, .string xf.op, .slice ya R.length yc] 52)
      obtain ⟨y0, y1, y2, y3, y4, y5, y6⟩ := fr_cells hN
      have e11 := (hb2.cell (p := ⟨b11, 0, none⟩) (block_lt c11)).trans c11
      have hszX : (wc.alloc (.cells #[.int .i64 xf.tok.kind, .int .i64 xf.tok.num, .string xf.tok.text, .int .i64 xf.tok.at_, .int .i64 xf.tok.mark, .string xf.op, .slice ya R.length yc] 52)).heap.size = wc.heap.size + 1 := World.size_alloc _ _
      have hone := one_read xf (HW.out.1.read.bl hb2)
      rw [hszX] at hone
      have hb3 := hb2.alloc (by rw [hszX]; exact Nat.le_succ _) (.cells #[.int .i64 xf.tok.kind, .int .i64 xf.tok.num, .string xf.tok.text, .int .i64 xf.tok.at_, .int .i64 xf.tok.mark, .string xf.op, .slice ya R.length yc] 52)
      have hbW := HW.out.2.trans (hb3.mono HW.out.2.size)
      have HIH := Lib.hid (ih j rfl d9 d8 d11 d10 [withK xf R] _ _ (PutC.bl hbW hpc) hone (fun n c h => by cases h) hbd)
      have HBW := Lib.hid hbW
      clear hpc hbd hb2 hN hone hb3 hbW hx' hf' hszX
      unfold cloV at c11 e11
      have qf := eql_funcN
      go_wp2_with fail
      refine HIH.out.mono ?_
      rintro e W9 ⟨v9, rfl, ho9, hb9⟩
      obtain ⟨na, nc, rfl⟩ := ho9.form
      have HO9 := Lib.hid (ho9.mono (base' := W.heap.size) HBW.out.size)
      have HB9 := Lib.hid (HBW.out.trans (hb9.mono HBW.out.size))
      clear ho9 hb9
      go_wp2_with fail
      go_ret
      exact ⟨_, rfl, HO9.out, HB9.out⟩
theorem putC_any (K : Nat → Prop) (l : List Fr) (path : List Int) (hl : Lens l) : ∀ (k b9 b8 b11 b10 : Nat) (S : Nat → Prop) (bs : List Fr) (vb : Value) (W : World), PutC W K l path (k + 1) (cloV b9 b8 b11 b10) → FrRead W S vb bs → (∀ n c, vb = .slice none n c → c = 0) →
    (∀ x, folP l path k = some x → (repl x.1 (path.getD k 0) bs).length * 88 ≤ 140737488355328) →
    Calls Tryz.prog 95 #[vb, .pointer (some ⟨b9, 0, none⟩), .pointer (some ⟨b8, 0, none⟩), .pointer (some ⟨b11, 0, none⟩), .pointer (some ⟨b10, 0, none⟩)] W fun e W' => ∃ v', e = .returned v' ∧ OwnL W.heap.size (putK l path (k + 1) bs) v' W' ∧ Below W.heap.size W W' := by
  intro k
  induction k with
  | zero => intro b9 b8 b11 b10 S bs vb W hc hr hn hb; exact putC_step K l path hl 0 b9 b8 b11 b10 S bs vb W hc hr hn hb (fun j h => by omega)
  | succ k ih =>
    intro b9 b8 b11 b10 S bs vb W hc hr hn hb
    exact putC_step K l path hl (k + 1) b9 b8 b11 b10 S bs vb W hc hr hn hb (fun j h d9 d8 d11 d10 cs vc V qc qr qn qb => by
      have e : k = j := by omega
      subst e
      exact ih d9 d8 d11 d10 (fun _ => True) cs vc V qc qr qn qb)
end Go.Proofs.YtopbmndjnjnmcaaGreatDoor
namespace Go.Proofs.YtopbmndjnjnmcaaGreatDoor
open Go.RowKit Lx Go.Sort
/- (P7) -/
attribute [local go_sem] Oper.semAt_some
theorem set7w_ne {W : World} {g b : Nat} (h : b ≠ g) (a0 a1 a2 a3 a4 a5 a6 : Value) : (set7w W g a0 a1 a2 a3 a4 a5 a6).heap[b]? = W.heap[b]? := by
  unfold set7w
  rw [set_ne _ _ _ _ h, set_ne _ _ _ _ h, set_ne _ _ _ _ h, set_ne _ _ _ _ h, set_ne _ _ _ _ h, set_ne _ _ _ _ h, set_ne _ _ _ _ h]
theorem set7w_below {w W : World} {base g : Nat} (h : Below base w W) (hg : base ≤ g) (a0 a1 a2 a3 a4 a5 a6 : Value) : Below base w (set7w W g a0 a1 a2 a3 a4 a5 a6) :=
  ((((((h.setCell (p := ⟨g, 0, none⟩) hg a0).setCell (p := ⟨g, 1, none⟩) hg a1).setCell (p := ⟨g, 2, none⟩) hg a2).setCell (p := ⟨g, 3, none⟩) hg a3).setCell (p := ⟨g, 4, none⟩) hg a4).setCell (p := ⟨g, 5, none⟩) hg a5).setCell (p := ⟨g, 6, none⟩) hg a6
theorem a3x (W : World) (X Y Z : Obj) : (((W.alloc X).alloc Y).alloc Z).drew.heap[W.heap.size]? = some X := by
  show (((W.alloc X).alloc Y).alloc Z).heap[W.heap.size]? = some X
  have h := ((Below.refl (W.alloc X).heap.size (W.alloc X)).alloc (Nat.le_refl _) Y).alloc (by rw [World.size_alloc (W.alloc X) Y]; exact Nat.le_succ _) Z
  rw [h.block W.heap.size (by rw [World.size_alloc]; omega)]
  exact heap_alloc_new W X
theorem a3y (W : World) (X Y Z : Obj) : (((W.alloc X).alloc Y).alloc Z).drew.heap[W.heap.size + 1]? = some Y := by
  show (((W.alloc X).alloc Y).alloc Z).heap[W.heap.size + 1]? = some Y
  have hs := World.size_alloc W X
  have h := (Below.refl ((W.alloc X).alloc Y).heap.size ((W.alloc X).alloc Y)).alloc (Nat.le_refl _) Z
  rw [h.block (W.heap.size + 1) (by rw [World.size_alloc, World.size_alloc]; omega), ← hs]
  exact heap_alloc_new _ Y
theorem a3z (W : World) (X Y Z : Obj) : (((W.alloc X).alloc Y).alloc Z).drew.heap[W.heap.size + 1 + 1]? = some Z := by
  show (((W.alloc X).alloc Y).alloc Z).heap[W.heap.size + 1 + 1]? = some Z
  have hs : ((W.alloc X).alloc Y).heap.size = W.heap.size + 1 + 1 := by rw [World.size_alloc, World.size_alloc]
  rw [← hs]
  exact heap_alloc_new _ Z
theorem a3b (W : World) (X Y Z : Obj) : Below W.heap.size W (((W.alloc X).alloc Y).alloc Z).drew :=
  ((((Below.refl W.heap.size W).alloc (Nat.le_refl _) X).alloc (by rw [World.size_alloc]; exact Nat.le_succ _) Y).alloc (by rw [World.size_alloc, World.size_alloc]; omega) Z).drew
theorem frag_ret3 {fn : Func} {tmps : Array Value} {W : World} {g : Nat} {cs : Array Value} {Post : Ending → World → Prop} (hf : fn.results = #[.cell 4 52, .tmp 5, .tmp 6]) (hp : tmps.getD 4 undef = .pointer (some ⟨g, 0, none⟩)) (hg : W.heap[g]? = some (.cells cs 52 (0, 0))) (hs : cs.size = 7) (h : Post (.returned (.tuple #[.agg cs, tmps.getD 5 undef, tmps.getD 6 undef])) W) :
    bodyPost Tryz.prog fn Post Exit.ret { tmps := tmps, defers := [] } W := by
  refine bodyPost_ret (v := .tuple #[.agg cs, tmps.getD 5 undef, tmps.getD 6 undef]) ?_ rfl h
  have hp' : tmps[4]?.getD undef = .pointer (some ⟨g, 0, none⟩) := by simpa using hp
  simp [results, hf, hp', asAddr, run_loadVar_row W g 52 52 cs (0, 0) _ hg Tryz.underlying52 rfl (by rw [hs]; kernel_rfl)]
theorem folP_stop {l : List Fr} {p : List Int} {n k : Nat} (h : k ≤ n) (hs : folP l p k = none) : folP l p n = none := by
  cases hn : folP l p n with
  | none => rfl
  | some x => have := folP_mono h (by rw [hn]; rfl); rw [hs] at this; cases this
/-- What the loop of follow holds behind the first numbers of a path. -/
def FolI (w : World) (l : List Fr) (path : List Int) (k : Nat) (lv fv : Value) (W : World) : Prop :=
  ∃ (x : List Fr × Fr) (ka : Option Addr) (kn kc : Nat), folP l path k = some x ∧ FrRead W (fun b => b < w.heap.size) lv x.1 ∧ PutC W (fun b => b ≠ w.heap.size) l path k fv ∧
    W.heap[w.heap.size]? = some (.cells #[.int .i64 x.2.tok.kind, .int .i64 x.2.tok.num, .string x.2.tok.text, .int .i64 x.2.tok.at_, .int .i64 x.2.tok.mark, .string x.2.op, .slice ka kn kc] 52 (0, 0)) ∧
    FrRead W (fun b => b < w.heap.size) (.slice ka kn kc) x.2.kids ∧ Below w.heap.size w W
/-- What follow returns. -/
def FolE (w : World) (l : List Fr) (path : List Int) (e : Ending) (W : World) : Prop :=
  Below w.heap.size w W ∧
    ((folP l path path.length = none ∧ e = .returned (.tuple #[.agg #[.int .i64 0, .int .i64 0, .string ⟨#[]⟩, .int .i64 0, .int .i64 0, .string ⟨#[]⟩, .slice none 0 0], .nilFunc, .bool false])) ∨
      ∃ (x : List Fr × Fr) (ka : Option Addr) (kn kc : Nat) (fv : Value), folP l path path.length = some x ∧
        e = .returned (.tuple #[.agg #[.int .i64 x.2.tok.kind, .int .i64 x.2.tok.num, .string x.2.tok.text, .int .i64 x.2.tok.at_, .int .i64 x.2.tok.mark, .string x.2.op, .slice ka kn kc], fv, .bool (decide (0 < path.length))]) ∧
        FrRead W (fun b => b < w.heap.size) (.slice ka kn kc) x.2.kids ∧ PutC W (fun _ => True) l path path.length fv)
set_option maxRecDepth 100000 in
set_option maxHeartbeats 16000000 in
/-- **follow** -/
theorem follow_any (S : Nat → Prop) (l : List Fr) (path : List Int) (v vp : Value) (w : World) (hr : FrRead w S v l) (hp : IntsAt w vp path) :
    Calls Tryz.prog 65 #[v, vp] w fun e W => FolE w l path e W := by
  have hr2 : FrRead w (fun b => b < w.heap.size) v l := hr.keep fun b _ hlt => ⟨rfl, hlt⟩
  have hba := (Below.refl w.heap.size w).alloc (Nat.le_refl _) (.cells #[.int .i64 0, .int .i64 0, .string ⟨#[]⟩, .int .i64 0, .int .i64 0, .string ⟨#[]⟩, .slice none 0 0] 52)
  have hN := heap_alloc_new w (.cells #[.int .i64 0, .int .i64 0, .string ⟨#[]⟩, .int .i64 0, .int .i64 0, .string ⟨#[]⟩, .slice none 0 0] 52)
  have HI0 : Hid (FolI w l path 0 v .nilFunc (w.alloc (.cells #[.int .i64 0, .int .i64 0, .string ⟨#[]⟩, .int .i64 0, .int .i64 0, .string ⟨#[]⟩, .slice none 0 0] 52))) :=
    Lib.hid ⟨_, none, 0, 0, rfl, hr2.bl hba, rfl, hN, .nil _ _ _ _, hba⟩
  have HP := Lib.hid hp
  obtain ⟨pa, pc, rfl, hm, _⟩ := hp
  obtain ⟨va, vc, _, _, rfl, _⟩ := hr
  unfold maxLen at hm
  clear hr2 hba hN
  go_enter Tryz.func65, Tryz.ntmps65
  go_wp2_with fail
  go_loopw [0, 5, 14] (fun lv fv x wr => ∃ k : Nat, k ≤ path.length ∧ x = .int .i64 k ∧ (∃ a n c, lv = .slice a n c) ∧ Hid (FolI w l path k lv fv wr)) (fun _ _ x _ => path.length - (intOf x).toNat)
  case atStart => exact ⟨0, by omega, rfl, ⟨_, _, _, rfl⟩, HI0⟩
  case round =>
    obtain ⟨k, hk, rfl, ⟨la, ln, lc, rfl⟩, HI⟩ := hrel
    by_cases hlt : k < path.length
    · obtain ⟨i, hi⟩ : ∃ i, path[k]? = some i := ⟨_, List.getElem?_eq_getElem hlt⟩
      have k1 : (k : Int) < (path.length : Int) := by omega
      obtain ⟨x, ka, kn, kc, hx, hrd, hpc, hN, hkd, hbel⟩ := HI.out
      obtain ⟨gp, op, hpa, hgp, hcp⟩ : ∃ g o, pa = some ⟨g, o, none⟩ ∧ g < w.heap.size ∧ w.cell? ⟨g, o + k, none⟩ = some (.int .i64 i) := by
        obtain ⟨a, c, hv, _, h⟩ := HP.out
        cases hv
        exact h k i hi
      subst hpa
      have hc' := (hbel.cell (p := ⟨gp, op + k, none⟩) hgp).trans hcp
      have hln : ln = x.1.length := by obtain ⟨_, _, _, _, h, _⟩ := hrd; cases h; rfl
      subst hln
      have hgd : path.getD k 0 = i := by rw [List.getD_eq_getElem?_getD, hi]; rfl
      have HGD := Lib.hid hgd
      have HX := Lib.hid hx
      have HRD := Lib.hid hrd
      have HPC := Lib.hid hpc
      have HN4 := Lib.hid hN
      have HKD := Lib.hid hkd
      have HBL := Lib.hid hbel
      have hnx : folP l path (k + 1) = (stepP x.1 i).map fun f => (f.kids, f) := by rw [folP, hx, hgd]; rfl
      have HNX := Lib.hid hnx
      clear hx hrd hpc hN hkd hbel hcp hgd hnx
      by_cases hneg : i < 0
      · have hs0 : stepP x.1 i = none := by unfold stepP; rw [if_neg (by omega)]
        have HNX2 : Hid (folP l path path.length = none) := Lib.hid (folP_stop (k := k + 1) (by omega) (by rw [HNX.out, hs0]; rfl))
        have hb1 := (Below.refl wr.heap.size wr).alloc (Nat.le_refl _) (.cells #[.int .i64 i] 3)
        have HB1 := Lib.hid hb1
        go_upto_region 5 with fail
        obtain ⟨W2, hW2⟩ : ∃ W2, wr.alloc (.cells #[.int .i64 i] 3) = W2 := ⟨_, rfl⟩
        rw [hW2] at HB1 ⊢
        have hNc := (HB1.out.block w.heap.size (Array.getElem?_eq_some_iff.1 HN4.out).1).trans HN4.out
        have f0 := fr_free hNc
        obtain ⟨m0, m1, m2, m3, m4, m5, m6⟩ := fr_cells hNc
        have hN7 := set7w_heap hNc (.int .i64 0) (.int .i64 0) (.string ⟨#[]⟩) (.int .i64 0) (.int .i64 0) (.string ⟨#[]⟩) (.slice none 0 0)
        have HN7 := Lib.hid hN7
        have HBW := Lib.hid (set7w_below (HBL.out.trans (HB1.out.mono HBL.out.size)) (Nat.le_refl _) (.int .i64 0) (.int .i64 0) (.string ⟨#[]⟩) (.int .i64 0) (.int .i64 0) (.string ⟨#[]⟩) (.slice none 0 0))
        clear hW2 hNc hN7 hb1
        go_wp2_with fail
        refine frag_ret3 rfl rfl HN7.out rfl ?_
        exact ⟨HBW.out, .inl ⟨HNX2.out, rfl⟩⟩
      · by_cases hbig : (x.1.length : Int) ≤ i
        · have hs0 : stepP x.1 i = none := by unfold stepP; rw [if_pos (by omega)]; exact List.getElem?_eq_none (by omega)
          have HNX2 : Hid (folP l path path.length = none) := Lib.hid (folP_stop (k := k + 1) (by omega) (by rw [HNX.out, hs0]; rfl))
          have hb1 := (Below.refl wr.heap.size wr).alloc (Nat.le_refl _) (.cells #[.int .i64 i] 3)
          have HB1 := Lib.hid hb1
          go_upto_region 5 with fail
          obtain ⟨W2, hW2⟩ : ∃ W2, wr.alloc (.cells #[.int .i64 i] 3) = W2 := ⟨_, rfl⟩
          rw [hW2] at HB1 ⊢
          have hNc := (HB1.out.block w.heap.size (Array.getElem?_eq_some_iff.1 HN4.out).1).trans HN4.out
          have f0 := fr_free hNc
          obtain ⟨m0, m1, m2, m3, m4, m5, m6⟩ := fr_cells hNc
          have hN7 := set7w_heap hNc (.int .i64 0) (.int .i64 0) (.string ⟨#[]⟩) (.int .i64 0) (.int .i64 0) (.string ⟨#[]⟩) (.slice none 0 0)
          have HN7 := Lib.hid hN7
          have HBW := Lib.hid (set7w_below (HBL.out.trans (HB1.out.mono HBL.out.size)) (Nat.le_refl _) (.int .i64 0) (.int .i64 0) (.string ⟨#[]⟩) (.int .i64 0) (.int .i64 0) (.string ⟨#[]⟩) (.slice none 0 0))
          clear hW2 hNc hN7 hb1
          go_wp2_with fail
          refine frag_ret3 rfl rfl HN7.out rfl ?_
          exact ⟨HBW.out, .inl ⟨HNX2.out, rfl⟩⟩
        · have j1 : 0 ≤ i := by omega
          have j2 : i < (x.1.length : Int) := by omega
          obtain ⟨n, rfl⟩ : ∃ n : Nat, i = n := ⟨i.toNat, by omega⟩
          have h5 : u5 = .nilFunc ∨ ∃ c9 c8 c11 c10, u5 = cloV c9 c8 c11 c10 := by
            cases k with
            | zero => exact .inl HPC.out
            | succ j => obtain ⟨c9, c8, c11, c10, _, _, _, _, _, _, _, _, _, he, _⟩ := HPC.out; exact .inr ⟨c9, c8, c11, c10, he⟩
          have hb1 := (Below.refl wr.heap.size wr).alloc (Nat.le_refl _) (.cells #[.int .i64 n] 3)
          have HB1 := Lib.hid hb1
          have H8 := Lib.hid (Boxed.new wr 3 (.int .i64 n))
          go_upto_region 6 with fail
          obtain ⟨W2, hW2⟩ : ∃ W2, wr.alloc (.cells #[.int .i64 n] 3) = W2 := ⟨_, rfl⟩
          rw [hW2] at HB1 H8 ⊢
          have hlw : w.heap.size < W2.heap.size := Nat.lt_of_lt_of_le (Array.getElem?_eq_some_iff.1 HN4.out).1 HB1.out.size
          obtain ⟨n0, n1, n2, n3, n4, n5, n6⟩ := fr_cells ((HB1.out.block w.heap.size (Array.getElem?_eq_some_iff.1 HN4.out).1).trans HN4.out)
          clear hW2
          go_cut [9, 10, 11] from 27 to 29 (fun p9 p10 p11 wx => ∃ b9 b10 b11, p9 = .pointer (some ⟨b9, 0, none⟩) ∧ p10 = .pointer (some ⟨b10, 0, none⟩) ∧ p11 = .pointer (some ⟨b11, 0, none⟩) ∧
            Hid (Boxed wx b9 25 (.slice la x.1.length lc) ∧ wx.heap[b10]? = some (.cells #[.int .i64 x.2.tok.kind, .int .i64 x.2.tok.num, .string x.2.tok.text, .int .i64 x.2.tok.at_, .int .i64 x.2.tok.mark, .string x.2.op, .slice ka kn kc] 52 (0, 0)) ∧ Boxed wx b11 88 u5 ∧ (W2.heap.size ≤ b9 ∧ W2.heap.size ≤ b10 ∧ W2.heap.size ≤ b11) ∧ Below W2.heap.size W2 wx))
          case first =>
            have hl1 : w.heap.size < W2.heap.size + 1 := by omega
            have hl2 : w.heap.size < W2.heap.size + 1 + 1 := by omega
            have hl3 : w.heap.size < W2.heap.size + 1 + 1 + 1 := by omega
            rcases h5 with rfl | ⟨c9, c8, c11, c10, rfl⟩
            · clear HPC HX HRD HKD HNX HGD HB1 H8 HN4 HI
              go_region
              all_goals
                simp only [Exit.then]
                go_step
                go_meet
                refine ⟨_, _, _, rfl, rfl, rfl, Lib.hid ⟨?_, ?_, ?_, ⟨?_, ?_, ?_⟩, a3b _ _ _ _⟩⟩
                all_goals (try unfold Boxed)
                any_goals first | with_reducible exact a3x _ _ _ _ | with_reducible exact a3y _ _ _ _ | with_reducible exact a3z _ _ _ _
                all_goals omega
            · clear HPC HX HRD HKD HNX HGD HB1 H8 HN4 HI
              unfold cloV
              go_region
              all_goals
                simp only [Exit.then]
                go_step
                go_meet
                refine ⟨_, _, _, rfl, rfl, rfl, Lib.hid ⟨?_, ?_, ?_, ⟨?_, ?_, ?_⟩, a3b _ _ _ _⟩⟩
                all_goals (try unfold Boxed cloV)
                all_goals (try unfold Boxed)
                any_goals first | with_reducible exact a3x _ _ _ _ | with_reducible exact a3y _ _ _ _ | with_reducible exact a3z _ _ _ _
                all_goals omega
          case rest =>
            obtain ⟨b9, b10, b11, rfl, rfl, rfl, HQ⟩ := hcut
            obtain ⟨q9, q10, q11, ⟨q1, q2, q3⟩, qb⟩ := HQ.out
            have q8 : Boxed wc wr.heap.size 3 (.int .i64 n) := boxed_bl H8.out qb
            have hwb1 : w.heap.size < wr.heap.size := (Array.getElem?_eq_some_iff.1 HN4.out).1
            have hwb : w.heap.size ≤ wr.heap.size := HBL.out.size
            have hwb2 : wr.heap.size < W2.heap.size := H8.out.lt
            have B2 := Lib.hid (HBL.out.trans ((HB1.out.mono hwb).trans (qb.mono (by omega))))
            obtain ⟨f, hf⟩ : ∃ f, x.1[n]? = some f := ⟨_, List.getElem?_eq_getElem (by omega)⟩
            have hsf : stepP x.1 (n : Int) = some f := by unfold stepP; rw [if_pos (by omega)]; exact hf
            have hrd3 := (HRD.out.bl HB1.out).bl qb
            have hne : x.1 ≠ [] := by intro h; rw [h] at hf; cases hf
            have HNX2 : Hid (folP l path (k + 1) = some (f.kids, f)) := Lib.hid (by rw [HNX.out, hsf]; rfl)
            have HPN : Hid (PutC wc (fun b => b ≠ w.heap.size) l path (k + 1) (cloV b9 wr.heap.size b11 b10)) := Lib.hid
              ⟨b9, wr.heap.size, b11, b10, x, la, lc, u5, ka, kn, kc, HX.out, ⟨f, by rw [HGD.out]; exact hsf⟩, rfl, ⟨by omega, by omega, by omega, by omega⟩, q9, hrd3.keep (fun b hb _ => ⟨rfl, by omega⟩), by rw [HGD.out]; exact q8, q11, q10, PutC.bl qb (PutC.bl HB1.out HPC.out)⟩
            obtain ⟨gl, ol, rfl⟩ : ∃ g o, la = some ⟨g, o, none⟩ := by obtain ⟨_, _, g, o, h, _, ha, _⟩ := hrd3; cases h; exact ⟨g, o, ha hne⟩
            obtain ⟨kv, c0, c1, c2, c3, c4, c5, c6, hkv⟩ : ∃ kv, wc.cell? ⟨gl, ol + n * 7, none⟩ = some (.int .i64 f.tok.kind) ∧ wc.cell? ⟨gl, ol + n * 7 + 1, none⟩ = some (.int .i64 f.tok.num) ∧ wc.cell? ⟨gl, ol + n * 7 + 2, none⟩ = some (.string f.tok.text) ∧
                wc.cell? ⟨gl, ol + n * 7 + 3, none⟩ = some (.int .i64 f.tok.at_) ∧ wc.cell? ⟨gl, ol + n * 7 + 4, none⟩ = some (.int .i64 f.tok.mark) ∧ wc.cell? ⟨gl, ol + n * 7 + 5, none⟩ = some (.string f.op) ∧ wc.cell? ⟨gl, ol + n * 7 + 6, none⟩ = some kv ∧ FrRead wc (fun b => b < w.heap.size) kv f.kids := by
              obtain ⟨_, _, g, o, h, _, ha, hat⟩ := hrd3
              cases h
              cases ha hne
              obtain ⟨kv, _, _, d0, d1, d2, d3, d4, d5, d6, hk⟩ := hat.get hf
              exact ⟨kv, d0, d1, d2, d3, d4, d5, d6, hk⟩
            obtain ⟨qa, qc, hkf⟩ : ∃ a c, kv = .slice a f.kids.length c := by obtain ⟨a, c, _, _, h, _⟩ := hkv; exact ⟨a, c, h⟩
            subst hkf
            have hNc := (qb.block w.heap.size (by omega)).trans ((HB1.out.block w.heap.size hwb1).trans HN4.out)
            have f0 := fr_free hNc
            obtain ⟨m0, m1, m2, m3, m4, m5, m6⟩ := fr_cells hNc
            have hN7 := set7w_heap hNc (.int .i64 f.tok.kind) (.int .i64 f.tok.num) (.string f.tok.text) (.int .i64 f.tok.at_) (.int .i64 f.tok.mark) (.string f.op) (.slice qa f.kids.length qc)
            have HN7 := Lib.hid hN7
            obtain ⟨_, _, _, _, _, _, y6⟩ := fr_cells hN7
            unfold set7w at y6
            have HKV := Lib.hid hkv
            have cq8 := q8.cell
            have hmf : ∀ (fn : Fn) (first cap : Array Value) (w : World), (Instr.makeFunc fn first cap).run Tryz.prog w = .ok (.func fn first cap) w := fun _ _ _ _ => rfl
            clear q9 q10 q11 q1 q2 q3 qb q8 hrd3 hsf hNc hN7 hkv n0 n1 n2 n3 n4 n5 n6 HI HB1 H8 HQ h5
            go_wp2_with fail
            go_roundw
            case rel =>
              refine ⟨k + 1, by omega, by go_num, ⟨_, _, _, rfl⟩, Lib.hid ?_⟩
              change FolI w l path (k + 1) (.slice qa f.kids.length qc) (cloV b9 wr.heap.size b11 b10) (set7w wc w.heap.size (.int .i64 f.tok.kind) (.int .i64 f.tok.num) (.string f.tok.text) (.int .i64 f.tok.at_) (.int .i64 f.tok.mark) (.string f.op) (.slice qa f.kids.length qc))
              exact ⟨(f.kids, f), qa, f.kids.length, qc, HNX2.out, set7w_fr HKV.out (Nat.lt_irrefl _) _ _ _ _ _ _ _, HPN.out.keep (fun b hb _ => ⟨set7w_ne hb _ _ _ _ _ _ _, hb⟩), HN7.out, set7w_fr HKV.out (Nat.lt_irrefl _) _ _ _ _ _ _ _, set7w_below B2.out (Nat.le_refl _) _ _ _ _ _ _ _⟩
            case measure => simp [intOf]; omega
    · obtain rfl : k = path.length := by omega
      obtain ⟨x, ka, kn, kc, hx, hrd, hpc, hN, hkd, hbel⟩ := HI.out
      have f0 := fr_free hN
      obtain ⟨m0, m1, m2, m3, m4, m5, m6⟩ := fr_cells hN
      have HN7 := Lib.hid (set7w_heap hN (.int .i64 x.2.tok.kind) (.int .i64 x.2.tok.num) (.string x.2.tok.text) (.int .i64 x.2.tok.at_) (.int .i64 x.2.tok.mark) (.string x.2.op) (.slice ka kn kc))
      have HX := Lib.hid hx
      have HKD := Lib.hid (set7w_fr hkd (Nat.lt_irrefl _) (.int .i64 x.2.tok.kind) (.int .i64 x.2.tok.num) (.string x.2.tok.text) (.int .i64 x.2.tok.at_) (.int .i64 x.2.tok.mark) (.string x.2.op) (.slice ka kn kc))
      have HPC : Hid (PutC (set7w wr w.heap.size (.int .i64 x.2.tok.kind) (.int .i64 x.2.tok.num) (.string x.2.tok.text) (.int .i64 x.2.tok.at_) (.int .i64 x.2.tok.mark) (.string x.2.op) (.slice ka kn kc)) (fun _ => True) l path path.length u5) := Lib.hid (hpc.keep fun b hb _ => ⟨set7w_ne hb _ _ _ _ _ _ _, trivial⟩)
      have HBW := Lib.hid (set7w_below hbel (Nat.le_refl _) (.int .i64 x.2.tok.kind) (.int .i64 x.2.tok.num) (.string x.2.tok.text) (.int .i64 x.2.tok.at_) (.int .i64 x.2.tok.mark) (.string x.2.op) (.slice ka kn kc))
      have hd : decide ((0 : Int) < (path.length : Int)) = decide (0 < path.length) := by
        by_cases h : 0 < path.length
        · rw [decide_eq_true h, decide_eq_true (by omega)]
        · rw [decide_eq_false h, decide_eq_false (by omega)]
      have HD := Lib.hid hd
      clear hx hrd hpc hN hkd hbel hd
      go_wp2_with fail
      refine frag_ret3 rfl rfl HN7.out rfl ?_
      exact ⟨HBW.out, .inr ⟨x, ka, kn, kc, u5, HX.out, by rw [← HD.out]; rfl, HKD.out, HPC.out⟩⟩
end Go.Proofs.YtopbmndjnjnmcaaGreatDoor
namespace Go.Proofs.YtopbmndjnjnmcaaGreatDoor
open Go.RowKit Lx Go.Sort
/- (P8) -/
attribute [local go_sem] Oper.semAt_some
theorem frag_ret2 {fn : Func} {tmps : Array Value} {W : World} {g : Nat} {cs : Array Value} {Post : Ending → World → Prop} (hf : fn.results = #[.cell 4 52, .tmp 5]) (hp : tmps.getD 4 undef = .pointer (some ⟨g, 0, none⟩)) (hg : W.heap[g]? = some (.cells cs 52 (0, 0))) (hs : cs.size = 7) (h : Post (.returned (.tuple #[.agg cs, tmps.getD 5 undef])) W) :
    bodyPost Tryz.prog fn Post Exit.ret { tmps := tmps, defers := [] } W := by
  refine bodyPost_ret (v := .tuple #[.agg cs, tmps.getD 5 undef]) ?_ rfl h
  have hp' : tmps[4]?.getD undef = .pointer (some ⟨g, 0, none⟩) := by simpa using hp
  simp [results, hf, hp', asAddr, run_loadVar_row W g 52 52 cs (0, 0) _ hg Tryz.underlying52 rfl (by rw [hs]; kernel_rfl)]
/-- What At returns. -/
def AtE (w : World) (l : List Fr) (path : List Int) (e : Ending) (W : World) : Prop :=
  Below w.heap.size w W ∧
    (((folP l path path.length = none ∨ path = []) ∧ e = .returned (.tuple #[.agg #[.int .i64 0, .int .i64 0, .string ⟨#[]⟩, .int .i64 0, .int .i64 0, .string ⟨#[]⟩, .slice none 0 0], .int .i64 3])) ∨
      ∃ (f : Fr) (kv : Value), folP l path path.length = some (f.kids, f) ∧ path ≠ [] ∧
        e = .returned (.tuple #[.agg #[.int .i64 f.tok.kind, .int .i64 f.tok.num, .string f.tok.text, .int .i64 f.tok.at_, .int .i64 f.tok.mark, .string f.op, kv], .int .i64 0]) ∧ FrRead W (fun _ => True) kv f.kids)
theorem folP_last {l : List Fr} {p : List Int} {x : List Fr × Fr} (hp : p ≠ []) (h : folP l p p.length = some x) : x = (x.2.kids, x.2) := by
  cases hl : p.length with
  | zero => exact absurd (List.eq_nil_of_length_eq_zero hl) hp
  | succ k =>
    rw [hl, folP] at h
    cases hf : folP l p k with
    | none => rw [hf] at h; cases h
    | some y =>
      rw [hf] at h
      simp only [Option.bind_some, Option.map_eq_some_iff] at h
      obtain ⟨f, _, rfl⟩ := h
      rfl
set_option maxRecDepth 100000 in
set_option maxHeartbeats 16000000 in
/-- **At** -/
theorem fAt_any (S : Nat → Prop) (l : List Fr) (path : List Int) (v vp : Value) (w : World) (hr : FrRead w S v l) (hp : IntsAt w vp path) (hl : Lens l) :
    Calls Tryz.prog 39 #[v, vp] w fun e W => AtE w l path e W := by
  have hba := (Below.refl w.heap.size w).alloc (Nat.le_refl _) (.cells #[.int .i64 0, .int .i64 0, .string ⟨#[]⟩, .int .i64 0, .int .i64 0, .string ⟨#[]⟩, .slice none 0 0] 52)
  have hN := heap_alloc_new w (.cells #[.int .i64 0, .int .i64 0, .string ⟨#[]⟩, .int .i64 0, .int .i64 0, .string ⟨#[]⟩, .slice none 0 0] 52)
  have hsa : (w.alloc (.cells #[.int .i64 0, .int .i64 0, .string ⟨#[]⟩, .int .i64 0, .int .i64 0, .string ⟨#[]⟩, .slice none 0 0] 52)).heap.size = w.heap.size + 1 := World.size_alloc _ _
  have HC := Lib.hid (follow_any S l path v vp (w.alloc (.cells #[.int .i64 0, .int .i64 0, .string ⟨#[]⟩, .int .i64 0, .int .i64 0, .string ⟨#[]⟩, .slice none 0 0] 52)) (hr.bl hba) (hp.bl hba))
  have HBA := Lib.hid hba
  have HN := Lib.hid hN
  have HSA := Lib.hid hsa
  have HL := Lib.hid hl
  clear hr hp hba hN hsa hl
  go_enter Tryz.func39, Tryz.ntmps39
  go_wp2_with fail
  go_at_call 65
  refine HC.out.mono ?_
  rintro e W1 ⟨hb1, h⟩
  have hN1 := (hb1.block w.heap.size (by rw [HSA.out]; omega)).trans HN.out
  have HB1 := Lib.hid (HBA.out.trans (hb1.mono HBA.out.size))
  have hw1 : w.heap.size < W1.heap.size := (Array.getElem?_eq_some_iff.1 hN1).1
  rcases h with ⟨hx, rfl⟩ | ⟨x, ka, kn, kc, fv, hx, rfl, hkd, hpc⟩
  · have HX := Lib.hid hx
    have HN1 := Lib.hid hN1
    have hb2 := (Below.refl W1.heap.size W1).alloc (Nat.le_refl _) (.cells #[.int .i64 0, .int .i64 0, .string ⟨#[]⟩, .int .i64 0, .int .i64 0, .string ⟨#[]⟩, .slice none 0 0] 52)
    have HB2 := Lib.hid hb2
    clear hx hb1 hN1 hb2
    go_upto_region 2 with fail
    obtain ⟨W2, hW2⟩ : ∃ W2, W1.alloc (.cells #[.int .i64 0, .int .i64 0, .string ⟨#[]⟩, .int .i64 0, .int .i64 0, .string ⟨#[]⟩, .slice none 0 0] 52) = W2 := ⟨_, rfl⟩
    rw [hW2] at HB2 ⊢
    have hN2 := (HB2.out.block w.heap.size hw1).trans HN1.out
    have f0 := fr_free hN2
    obtain ⟨m0, m1, m2, m3, m4, m5, m6⟩ := fr_cells hN2
    have HN7 := Lib.hid (set7w_heap hN2 (.int .i64 0) (.int .i64 0) (.string ⟨#[]⟩) (.int .i64 0) (.int .i64 0) (.string ⟨#[]⟩) (.slice none 0 0))
    have HBW := Lib.hid (set7w_below (HB1.out.trans (HB2.out.mono HB1.out.size)) (Nat.le_refl _) (.int .i64 0) (.int .i64 0) (.string ⟨#[]⟩) (.int .i64 0) (.int .i64 0) (.string ⟨#[]⟩) (.slice none 0 0))
    clear hW2 hN2
    go_wp2_with fail
    refine frag_ret2 rfl rfl HN7.out rfl ?_
    exact ⟨HBW.out, .inl ⟨.inl HX.out, rfl⟩⟩
  · by_cases h0 : path = []
    · have HX := Lib.hid h0
      have hd : decide (0 < path.length) = false := by rw [h0]; rfl
      have HN1 := Lib.hid hN1
      have hb2 := (Below.refl W1.heap.size W1).alloc (Nat.le_refl _) (.cells #[.int .i64 x.2.tok.kind, .int .i64 x.2.tok.num, .string x.2.tok.text, .int .i64 x.2.tok.at_, .int .i64 x.2.tok.mark, .string x.2.op, .slice ka kn kc] 52)
      have HB2 := Lib.hid hb2
      clear hx hb1 hN1 hb2 h0 hkd hpc
      rw [hd]
      go_upto_region 2 with fail
      obtain ⟨W2, hW2⟩ : ∃ W2, W1.alloc (.cells #[.int .i64 x.2.tok.kind, .int .i64 x.2.tok.num, .string x.2.tok.text, .int .i64 x.2.tok.at_, .int .i64 x.2.tok.mark, .string x.2.op, .slice ka kn kc] 52) = W2 := ⟨_, rfl⟩
      rw [hW2] at HB2 ⊢
      have hN2 := (HB2.out.block w.heap.size hw1).trans HN1.out
      have f0 := fr_free hN2
      obtain ⟨m0, m1, m2, m3, m4, m5, m6⟩ := fr_cells hN2
      have HN7 := Lib.hid (set7w_heap hN2 (.int .i64 0) (.int .i64 0) (.string ⟨#[]⟩) (.int .i64 0) (.int .i64 0) (.string ⟨#[]⟩) (.slice none 0 0))
      have HBW := Lib.hid (set7w_below (HB1.out.trans (HB2.out.mono HB1.out.size)) (Nat.le_refl _) (.int .i64 0) (.int .i64 0) (.string ⟨#[]⟩) (.int .i64 0) (.int .i64 0) (.string ⟨#[]⟩) (.slice none 0 0))
      clear hW2 hN2
      go_wp2_with fail
      refine frag_ret2 rfl rfl HN7.out rfl ?_
      exact ⟨HBW.out, .inl ⟨.inr HX.out, rfl⟩⟩
    · have hd : decide (0 < path.length) = true := decide_eq_true (List.length_pos_iff.2 h0)
      rw [hd]
      have hxx := folP_last h0 hx
      obtain ⟨xl, f⟩ := x
      simp only [Prod.mk.injEq, and_true] at hxx
      subst hxx
      simp only at hkd ⊢
      have hb2 := (Below.refl W1.heap.size W1).alloc (Nat.le_refl _) (.cells #[.int .i64 f.tok.kind, .int .i64 f.tok.num, .string f.tok.text, .int .i64 f.tok.at_, .int .i64 f.tok.mark, .string f.op, .slice ka kn kc] 52)
      have hM2 := heap_alloc_new W1 (.cells #[.int .i64 f.tok.kind, .int .i64 f.tok.num, .string f.tok.text, .int .i64 f.tok.at_, .int .i64 f.tok.mark, .string f.op, .slice ka kn kc] 52)
      have hsz := World.size_alloc W1 (.cells #[.int .i64 f.tok.kind, .int .i64 f.tok.num, .string f.tok.text, .int .i64 f.tok.at_, .int .i64 f.tok.mark, .string f.op, .slice ka kn kc] 52)
      have HB2 := Lib.hid hb2
      have HM2 := Lib.hid hM2
      have HSZ := Lib.hid hsz
      have HKD := Lib.hid hkd
      have HX := Lib.hid hx
      have HH0 := Lib.hid h0
      have HN1 := Lib.hid hN1
      clear hkd hpc hx h0 hb1 hN1 hb2 hM2 hsz
      go_upto_region 2 with fail
      obtain ⟨W2, hW2⟩ : ∃ W2, W1.alloc (.cells #[.int .i64 f.tok.kind, .int .i64 f.tok.num, .string f.tok.text, .int .i64 f.tok.at_, .int .i64 f.tok.mark, .string f.op, .slice ka kn kc] 52) = W2 := ⟨_, rfl⟩
      rw [hW2] at HB2 HM2 HSZ ⊢
      have hlk : Lens f.kids := folP_lens (x := (f.kids, f)) HL.out HX.out
      have HCL := Lib.hid (clone_any _ (fsz f.kids + 1) f.kids _ _ (Nat.lt_succ_self _) (HKD.out.bl HB2.out) hlk)
      clear hlk
      obtain ⟨x0, x1, x2, x3, x4, x5, x6⟩ := fr_cells HM2.out
      have HN2 := Lib.hid ((HB2.out.block w.heap.size hw1).trans HN1.out)
      clear hW2
      go_wp2_with fail
      go_at_call 63
      refine HCL.out.mono ?_
      rintro e W3 ⟨qa, qc, ys, rfl, hown, hk3, hb3⟩
      have hsz := HSZ.out
      have hM3 := (hb3.block W1.heap.size (by omega)).trans HM2.out
      have hN3 := (hb3.block w.heap.size (by omega)).trans HN2.out
      have f6 := fr_free hM3
      obtain ⟨z0, z1, z2, z3, z4, z5, z6⟩ := fr_cells hM3
      have hM4 := heap_set' _ W1.heap.size 6 (.slice qa f.kids.length qc) hM3
      simp only [List.setIfInBounds_toArray, List.set_cons_zero, List.set_cons_succ] at hM4
      obtain ⟨y0, y1, y2, y3, y4, y5, y6⟩ := fr_cells hM4
      have hN4 := (set_ne W3 W1.heap.size 6 (.slice qa f.kids.length qc) (show w.heap.size ≠ W1.heap.size by omega)).trans hN3
      have f0 := fr_free hN4
      obtain ⟨m0, m1, m2, m3, m4, m5, m6⟩ := fr_cells hN4
      have HN7 := Lib.hid (set7w_heap hN4 (.int .i64 f.tok.kind) (.int .i64 f.tok.num) (.string f.tok.text) (.int .i64 f.tok.at_) (.int .i64 f.tok.mark) (.string f.op) (.slice qa f.kids.length qc))
      have hbw := (HB1.out.trans ((HB2.out.trans (hb3.mono HB2.out.size)).mono HB1.out.size)).setCell (p := ⟨W1.heap.size, 6, none⟩) (show w.heap.size ≤ W1.heap.size by omega) (.slice qa f.kids.length qc)
      have HBW := Lib.hid (set7w_below hbw (Nat.le_refl _) (.int .i64 f.tok.kind) (.int .i64 f.tok.num) (.string f.tok.text) (.int .i64 f.tok.at_) (.int .i64 f.tok.mark) (.string f.op) (.slice qa f.kids.length qc))
      have hfr : FrRead W3 (fun b => b ≠ w.heap.size ∧ b ≠ W1.heap.size) (.slice qa f.kids.length qc) f.kids := kids_read hown rfl hk3 (fun b hb _ => by have := hb.1; exact ⟨by omega, by omega⟩) (fun b hb => by have := (owned_cells hown hb).1; exact ⟨by omega, by omega⟩)
      have HFR : Hid (FrRead (set7w (W3.setCell ⟨W1.heap.size, 6, none⟩ (.slice qa f.kids.length qc)) w.heap.size (.int .i64 f.tok.kind) (.int .i64 f.tok.num) (.string f.tok.text) (.int .i64 f.tok.at_) (.int .i64 f.tok.mark) (.string f.op) (.slice qa f.kids.length qc)) (fun _ => True) (.slice qa f.kids.length qc) f.kids) := Lib.hid (hfr.keep fun b hb _ => ⟨(set7w_ne hb.1 _ _ _ _ _ _ _).trans (set_ne _ _ _ _ hb.2), trivial⟩)
      clear hown hk3 hb3 hM3 hN3 hM4 hN4 hbw hfr x0 x1 x2 x3 x4 x5 x6 HCL hsz
      go_wp2_with fail
      refine frag_ret2 rfl rfl HN7.out rfl ?_
      exact ⟨HBW.out, .inr ⟨f, .slice qa f.kids.length qc, HX.out, HH0.out, rfl, HFR.out⟩⟩
end Go.Proofs.YtopbmndjnjnmcaaGreatDoor
namespace Go.Proofs.YtopbmndjnjnmcaaGreatDoor
open Go.RowKit Lx Go.Sort
/- (P9) -/
attribute [local go_sem] Oper.semAt_some
/-- What Put returns. -/
def PutE (w : World) (l : List Fr) (path : List Int) (bs : List Fr) (e : Ending) (W : World) : Prop :=
  Below w.heap.size w W ∧
    (((folP l path path.length = none ∨ path = []) ∧ e = .returned (.tuple #[.slice none 0 0, .int .i64 3])) ∨
      ((folP l path path.length).isSome ∧ path ≠ [] ∧ fitsP (putP l path bs) = false ∧ e = .returned (.tuple #[.slice none 0 0, .int .i64 7])) ∨
      ∃ v', (folP l path path.length).isSome ∧ path ≠ [] ∧ fitsP (putP l path bs) = true ∧ e = .returned (.tuple #[v', .int .i64 0]) ∧ FrRead W (fun _ => True) v' (putP l path bs))
set_option maxRecDepth 100000 in
set_option maxHeartbeats 16000000 in
/-- **Put** -/
theorem fPut_any (S S2 : Nat → Prop) (l bs : List Fr) (path : List Int) (v vp vb : Value) (w : World) (hr : FrRead w S v l) (hp : IntsAt w vp path) (hrb : FrRead w S2 vb bs) (hnb : ∀ n c, vb = .slice none n c → c = 0) (hl : Lens l)
    (hlp : (folP l path path.length).isSome = true → path ≠ [] → Lens (putP l path bs)) (hbd : (folP l path path.length).isSome = true → ∀ k x, path.length = k + 1 → folP l path k = some x → (repl x.1 (path.getD k 0) bs).length * 88 ≤ 140737488355328) :
    Calls Tryz.prog 41 #[v, vp, vb] w fun e W => PutE w l path bs e W := by
  have HC := Lib.hid (follow_any S l path v vp w hr hp)
  have HL := Lib.hid hl
  have HLP := Lib.hid hlp
  have HBD := Lib.hid hbd
  have HRB := Lib.hid hrb
  have HNB := Lib.hid hnb
  clear hr hp hrb hnb hl hlp hbd
  go_enter Tryz.func41, Tryz.ntmps41
  go_wp2_with fail
  go_at_call 65
  refine HC.out.mono ?_
  rintro e W1 ⟨hb1, h⟩
  have HB1 := Lib.hid hb1
  rcases h with ⟨hx, rfl⟩ | ⟨x, ka, kn, kc, fv, hx, rfl, hkd, hpc⟩
  · have HX := Lib.hid hx
    have hb2 := (Below.refl W1.heap.size W1).alloc (Nat.le_refl _) (.cells #[.int .i64 0, .int .i64 0, .string ⟨#[]⟩, .int .i64 0, .int .i64 0, .string ⟨#[]⟩, .slice none 0 0] 52)
    have HBW := Lib.hid (hb1.trans (hb2.mono hb1.size))
    clear hx hb1 hb2
    go_wp2_with fail
    go_ret2
    exact ⟨HBW.out, .inl ⟨.inl HX.out, rfl⟩⟩
  · by_cases h0 : path = []
    · have HX := Lib.hid h0
      have hd : decide (0 < path.length) = false := by rw [h0]; rfl
      have hb2 := (Below.refl W1.heap.size W1).alloc (Nat.le_refl _) (.cells #[.int .i64 x.2.tok.kind, .int .i64 x.2.tok.num, .string x.2.tok.text, .int .i64 x.2.tok.at_, .int .i64 x.2.tok.mark, .string x.2.op, .slice ka kn kc] 52)
      have HBW := Lib.hid (hb1.trans (hb2.mono hb1.size))
      clear hx hb1 hb2 h0 hkd hpc
      rw [hd]
      go_wp2_with fail
      go_ret2
      exact ⟨HBW.out, .inl ⟨.inr HX.out, rfl⟩⟩
    · have hd : decide (0 < path.length) = true := decide_eq_true (List.length_pos_iff.2 h0)
      rw [hd]
      obtain ⟨k, hk⟩ : ∃ k, path.length = k + 1 := ⟨path.length - 1, by have := List.length_pos_iff.2 h0; omega⟩
      rw [hk] at hpc
      have hb2 := (Below.refl W1.heap.size W1).alloc (Nat.le_refl _) (.cells #[.int .i64 x.2.tok.kind, .int .i64 x.2.tok.num, .string x.2.tok.text, .int .i64 x.2.tok.at_, .int .i64 x.2.tok.mark, .string x.2.op, .slice ka kn kc] 52)
      have HB2 := Lib.hid hb2
      have HIS : Hid ((folP l path path.length).isSome = true) := Lib.hid (by rw [hx]; rfl)
      have HKK : Hid (putK l path (k + 1) bs = putP l path bs) := Lib.hid (by rw [← hk]; exact putK_putP path l bs HIS.out h0)
      have HH0 := Lib.hid h0
      have HPC := Lib.hid hpc
      have HK := Lib.hid hk
      obtain ⟨c9, c8, c11, c10, _, _, _, _, _, _, _, _, _, he, _⟩ := hpc
      subst he
      clear hkd hx h0 hb1 hb2 hk
      go_upto_region 2 with fail
      obtain ⟨W2, hW2⟩ : ∃ W2, W1.alloc (.cells #[.int .i64 x.2.tok.kind, .int .i64 x.2.tok.num, .string x.2.tok.text, .int .i64 x.2.tok.at_, .int .i64 x.2.tok.mark, .string x.2.op, .slice ka kn kc] 52) = W2 := ⟨_, rfl⟩
      rw [hW2] at HB2 ⊢
      have HB12 := Lib.hid (HB1.out.trans (HB2.out.mono HB1.out.size))
      have HCC := Lib.hid (putC_any (fun _ => True) l path HL.out k c9 c8 c11 c10 S2 bs vb W2 (PutC.bl HB2.out HPC.out) ((HRB.out.bl HB1.out).bl HB2.out) HNB.out (fun x hx => HBD.out HIS.out k x HK.out hx))
      rw [HKK.out] at HCC
      clear hW2
      unfold cloV
      go_wp2_with fail
      refine HCC.out.mono ?_
      rintro e W3 ⟨v3, rfl, hown, hb3⟩
      obtain ⟨na, nc, rfl⟩ := hown.form
      have HO3 := Lib.hid hown.read
      have HB3 := Lib.hid (HB12.out.trans (hb3.mono HB12.out.size))
      clear hown hb3
      go_wp2_with fail
      go_at_call 58
      refine (fits_any (fun _ => True) (putP l path bs) _ _ HO3.out).mono ?_
      rintro e W4 ⟨rfl, hb4⟩
      have HB4 := Lib.hid (HB3.out.trans (hb4.mono HB3.out.size))
      have HO4 := Lib.hid (HO3.out.bl hb4)
      clear hb4
      obtain ⟨b, hb⟩ : ∃ b, fitsP (putP l path bs) = b := ⟨_, rfl⟩
      have HF := Lib.hid hb
      rw [hb]
      clear hb
      cases b
      · go_wp2_with fail
        go_ret2
        exact ⟨HB4.out, .inr (.inl ⟨HIS.out, HH0.out, HF.out, rfl⟩)⟩
      · go_wp2_with fail
        go_at_call 63
        refine (clone_any (fun _ => True) (fsz (putP l path bs) + 1) (putP l path bs) _ _ (Nat.lt_succ_self _) HO4.out (HLP.out HIS.out HH0.out)).mono ?_
        rintro e W5 ⟨qa, qc, ys, rfl, hown, hk5, hb5⟩
        have HFR : Hid (FrRead W5 (fun _ => True) (.slice qa (putP l path bs).length qc) (putP l path bs)) := Lib.hid (kids_read hown rfl hk5 (fun _ _ _ => trivial) (fun _ _ => trivial))
        have HB5 := Lib.hid (HB4.out.trans (hb5.mono HB4.out.size))
        clear hown hk5 hb5
        go_wp2_with fail
        go_ret2
        exact ⟨HB5.out, .inr (.inr ⟨_, HIS.out, HH0.out, HF.out, rfl, HFR.out⟩)⟩
end Go.Proofs.YtopbmndjnjnmcaaGreatDoor
namespace Go.Proofs.YtopbmndjnjnmcaaGreatDoor
open Go.RowKit Lx Go.Sort
/- (P10) -/
attribute [local go_sem] Oper.semAt_some
def signF (s : ByteArray) (f : Fr) : Bool := isSep s f && (!(f.tok.num == 0) || !(f.kids.isEmpty))
theorem signP_take {s : ByteArray} {l : List Fr} {k : Nat} {f : Fr} (h : l[k]? = some f) : signP s (l.take (k + 1)) = (signP s (l.take k) || signF s f) := by
  unfold signP signF
  rw [List.take_add_one, h, Option.toList_some, List.any_append]
  simp
theorem signP_mem {s : ByteArray} {l : List Fr} {k : Nat} {f : Fr} (h : l[k]? = some f) (hf : signF s f = true) : signP s l = true := by
  unfold signP
  exact List.any_eq_true.2 ⟨f, List.mem_of_getElem? h, hf⟩
set_option maxRecDepth 100000 in
set_option maxHeartbeats 16000000 in
/-- The law's signed. -/
theorem signed_any (S : Nat → Prop) (l : List Fr) (s : ByteArray) (v : Value) (w : World) (hr : FrRead w S v l) :
    Calls Tryz.prog 45 #[v, .string s] w fun e W => e = .returned (.bool (signP s l)) ∧ W = w := by
  have HR := Lib.hid hr
  have hm : l.length ≤ maxLen := by obtain ⟨_, _, _, _, _, h, _⟩ := hr; exact h.1
  unfold maxLen at hm
  obtain ⟨va, vc, _, _, rfl, h9⟩ := hr
  clear h9
  go_enter Tryz.func45, Tryz.ntmps45
  go_wp2_with fail
  go_loopw [5] (fun x wr => ∃ k : Nat, k ≤ l.length ∧ x = .int .i64 k ∧ Hid (signP s (l.take k) = false) ∧ wr = w) (fun x _ => l.length - (intOf x).toNat)
  case atStart => exact ⟨0, by omega, rfl, Lib.hid (by rw [List.take_zero]; rfl), rfl⟩
  case round =>
    obtain ⟨k, hk, rfl, HS, hw9⟩ := hrel
    have hw9 := hw9.symm
    subst hw9
    by_cases hlt : k < l.length
    · obtain ⟨f, hf⟩ : ∃ f, l[k]? = some f := ⟨_, List.getElem?_eq_getElem hlt⟩
      have k1 : (k : Int) < (l.length : Int) := by omega
      have hne : l ≠ [] := by intro h; rw [h] at hlt; simp at hlt
      obtain ⟨a', c', g, o, hv', _, ha', hat'⟩ := HR.out
      cases hv'
      cases ha' hne
      obtain ⟨kv, _, _, c0, c1, c2, c3, c4, c5, c6, hkr⟩ := hat'.get hf
      obtain ⟨ka, kc, hkf⟩ : ∃ a c, kv = .slice a f.kids.length c := by obtain ⟨a, c, _, _, h, _⟩ := hkr; exact ⟨a, c, h⟩
      subst hkf
      have hse : isSep s f = (f.op.toList.isEmpty && ((f.tok.kind == 5) && (f.tok.text.toList == s.toList))) := by unfold isSep; cases f.op.toList <;> rfl
      have HSF : Hid (signF s f = ((f.op.toList.isEmpty && ((f.tok.kind == 5) && (f.tok.text.toList == s.toList))) && ((f.tok.num != 0) || decide (0 < f.kids.length)))) := Lib.hid (by
        unfold signF
        rw [hse]
        congr 1
        congr 1
        cases f.kids <;> simp)
      have HTK : Hid (signP s (l.take (k + 1)) = signF s f) := Lib.hid (by rw [signP_take hf, HS.out]; rfl)
      have HMM : Hid (signF s f = true → signP s l = true) := Lib.hid (fun h => signP_mem hf h)
      clear hkr hse hat' ha' hf
      have tail : ∀ (b : Bool), signF s f = b → True := fun _ _ => trivial
      cases e1 : f.op.toList.isEmpty
      · have hb : signF s f = false := by rw [HSF.out, e1]; rfl
        have HB := Lib.hid hb
        clear hb tail
        go_wp2_with fail
        go_roundw
        case rel => exact ⟨k + 1, by omega, by go_num, Lib.hid (by rw [HTK.out]; exact HB.out), trivial⟩
        case measure => simp [intOf]; omega
      · cases e2 : (f.tok.kind == 5)
        · have hb : signF s f = false := by rw [HSF.out, e1, e2]; rfl
          have HB := Lib.hid hb
          clear hb tail
          go_wp2_with fail
          go_roundw
          case rel => exact ⟨k + 1, by omega, by go_num, Lib.hid (by rw [HTK.out]; exact HB.out), trivial⟩
          case measure => simp [intOf]; omega
        · cases e3 : (f.tok.text.toList == s.toList)
          · have hb : signF s f = false := by rw [HSF.out, e1, e2, e3]; rfl
            have HB := Lib.hid hb
            clear hb tail
            go_wp2_with fail
            go_roundw
            case rel => exact ⟨k + 1, by omega, by go_num, Lib.hid (by rw [HTK.out]; exact HB.out), trivial⟩
            case measure => simp [intOf]; omega
          · cases e4 : (f.tok.num != 0)
            · by_cases e5 : 0 < f.kids.length
              · have e6 : (0 : Int) < (f.kids.length : Int) := by omega
                have hb : signP s l = true := HMM.out (by rw [HSF.out, e1, e2, e3, e4, decide_eq_true e5]; rfl)
                have HB := Lib.hid hb
                clear hb tail
                go_wp2_with fail
                go_ret
                exact ⟨by rw [HB.out]; rfl, rfl⟩
              · have e6 : ¬ ((0 : Int) < (f.kids.length : Int)) := by omega
                have hb : signF s f = false := by rw [HSF.out, e1, e2, e3, e4, decide_eq_false e5]; rfl
                have HB := Lib.hid hb
                clear hb tail
                go_wp2_with fail
                go_roundw
                case rel => exact ⟨k + 1, by omega, by go_num, Lib.hid (by rw [HTK.out]; exact HB.out), trivial⟩
                case measure => simp [intOf]; omega
            · have hb : signP s l = true := HMM.out (by rw [HSF.out, e1, e2, e3, e4]; rfl)
              have HB := Lib.hid hb
              clear hb tail
              go_wp2_with fail
              go_ret
              exact ⟨by rw [HB.out]; rfl, rfl⟩
    · obtain rfl : k = l.length := by omega
      have hb := HS.out
      rw [List.take_length] at hb
      have HB := Lib.hid hb
      clear hb
      go_wp2_with fail
      go_ret
      exact ⟨by rw [HB.out]; rfl, rfl⟩
end Go.Proofs.YtopbmndjnjnmcaaGreatDoor
namespace Go.Proofs.YtopbmndjnjnmcaaGreatDoor
open Go.RowKit Lx Go.Sort
/- (P11) -/
attribute [local go_sem] Oper.semAt_some
theorem LensK.mem {l : List Fr} (h : LensK l) : ∀ f ∈ l, Lens f.kids := fun f hf => by
  obtain ⟨k, hk⟩ := List.getElem?_of_mem hf
  exact LensK.at h hk
theorem split_mem (s : ByteArray) (l : List Fr) : ∀ k, ∀ p ∈ (splitK s l k).1 ++ [(splitK s l k).2], p.length ≤ k ∧ ∀ f ∈ p, f ∈ l
  | 0, p, hp => by
    simp only [splitK, List.nil_append, List.mem_cons, List.not_mem_nil, or_false] at hp
    subst hp
    exact ⟨Nat.zero_le _, fun f hf => by cases hf⟩
  | k + 1, p, hp => by
    have ih := split_mem s l k
    rw [splitK] at hp
    cases hf : l[k]? with
    | none =>
      rw [hf] at hp
      obtain ⟨h1, h2⟩ := ih p hp
      exact ⟨by omega, h2⟩
    | some f =>
      rw [hf] at hp
      simp only at hp
      have hfl : f ∈ l := List.mem_of_getElem? hf
      split at hp
      · simp only [List.mem_append, List.mem_cons, List.not_mem_nil, or_false] at hp
        rcases hp with hp | hp
        · obtain ⟨h1, h2⟩ := ih p (by simpa using hp)
          exact ⟨by omega, h2⟩
        · subst hp; exact ⟨Nat.zero_le _, fun f hf => by cases hf⟩
      · simp only [List.mem_append, List.mem_cons, List.not_mem_nil, or_false] at hp
        rcases hp with hp | hp
        · obtain ⟨h1, h2⟩ := ih p (by simp [hp])
          exact ⟨by omega, h2⟩
        · obtain ⟨h1, h2⟩ := ih (splitK s l k).2 (by simp)
          subst hp
          refine ⟨by rw [List.length_append]; simpa using h1, fun g hg => ?_⟩
          rcases List.mem_append.1 hg with h | h
          · exact h2 g h
          · rw [List.mem_singleton.1 h]; exact hfl
theorem split_lens {s : ByteArray} {l : List Fr} (h : Lens l) : ∀ p ∈ splitP s l, Lens p := fun p hp => by
  obtain ⟨h1, h2⟩ := split_mem s l l.length p hp
  exact ⟨by have := h.1; omega, lensK_of fun f hf => LensK.mem h.2 f (h2 f hf)⟩
theorem repl_lens {l : List Fr} {i : Int} {g f : Fr} (h : Lens l) (hs : stepP l i = some f) (hg : Lens g.kids) : Lens (repl l i [g]) := by
  obtain ⟨h0, h1, _⟩ := stepP_some hs
  have hl := repl_len1 (l := l) (n := i.toNat) g h1
  rw [Int.toNat_of_nonneg h0] at hl
  refine ⟨by rw [hl]; exact h.1, lensK_of fun x hx => ?_⟩
  unfold repl at hx
  simp only [List.mem_append, List.mem_cons, List.not_mem_nil, or_false] at hx
  rcases hx with (hx | hx) | hx
  · exact LensK.mem h.2 x (List.mem_of_mem_take hx)
  · rw [hx]; exact hg
  · exact LensK.mem h.2 x (List.mem_of_mem_drop hx)
theorem put_lens : ∀ (p : List Int) (l : List Fr) (g : Fr), (folP l p p.length).isSome = true → Lens l → Lens g.kids → p ≠ [] → Lens (putP l p [g])
  | [], _, _, _, _, _, h => absurd rfl h
  | [i], l, g, hs, hl, hg, _ => by
    cases hf : stepP l i with
    | none => rw [List.length_cons, folP_none l i _ hf] at hs; cases hs
    | some f => rw [putP]; exact repl_lens hl hf hg
  | i :: j :: p, l, g, hs, hl, hg, _ => by
    cases hf : stepP l i with
    | none => rw [List.length_cons, folP_none l i _ hf] at hs; cases hs
    | some f =>
      rw [List.length_cons, folP_succ l i _ hf, if_neg (by simp)] at hs
      rw [putP, hf]
      simp only
      exact repl_lens hl hf (put_lens (j :: p) f.kids g hs (LensK.at hl.2 (stepP_some hf).2.2) hg (by simp))
theorem put_ok {l : List Fr} {path : List Int} {g : Fr} (hl : Lens l) (hg : Lens g.kids) : (folP l path path.length).isSome = true → path ≠ [] → Lens (putP l path [g]) := fun hs hne => put_lens path l g hs hl hg hne
theorem put_bd {l : List Fr} {path : List Int} {g : Fr} (hl : Lens l) (hg : Lens g.kids) : (folP l path path.length).isSome = true → ∀ k x, path.length = k + 1 → folP l path k = some x → (repl x.1 (path.getD k 0) [g]).length * 88 ≤ 140737488355328 := fun hs k x hk hx => by
  rw [hk, folP, hx] at hs
  simp only [Option.bind_some, Option.isSome_map] at hs
  obtain ⟨f, hf⟩ := Option.isSome_iff_exists.1 hs
  have h := repl_lens (folP_lens hl hx) hf hg
  exact h.1
def oneF : Fr := .mk ⟨1, 0, ⟨#[120]⟩, 0, 0⟩ ⟨#[]⟩ []
theorem joinA_split (s : ByteArray) (l : List Fr) : joinK s (splitP s l) (splitP s l).length = joinA s (splitP s l) := rfl
set_option maxRecDepth 100000 in
set_option maxHeartbeats 16000000 in
/-- **FragPieces** -/
theorem fragPieces_any (S : Nat → Prop) (l : List Fr) (s : ByteArray) (path : List Int) (v vp : Value) (w : World) (he : Env w) (hr : FrRead w S v l) (hp : IntsAt w vp path) (hl : Lens l) (hlen : l.length * 88 + 88 ≤ 140737488355328) :
    Calls Tryz.prog 11 #[v, .string s, vp] w fun e W => e = .returned (.bool true) ∧ Below w.heap.size w W := by
  have HE := Lib.hid he
  have HR := Lib.hid hr
  have HP := Lib.hid hp
  have HL := Lib.hid hl
  have HLEN := Lib.hid hlen
  have HSL := Lib.hid (split_lens (s := s) hl)
  have hjl : (joinK s (splitP s l) (splitP s l).length).length = l.length := joinA_len s l l.length (Nat.le_refl _)
  have HJL : Hid ((joinK s (splitP s l) (splitP s l).length).length * 88 ≤ 140737488355328) := Lib.hid (by rw [hjl]; exact hl.1)
  obtain ⟨J, hJ⟩ : ∃ J, joinK s (splitP s l) (splitP s l).length = J := ⟨_, rfl⟩
  have HAL : Hid (signP s l = false → alikeF true J l = true) := Lib.hid (fun h => by
    have := join_split s l h l.length (Nat.le_refl _)
    rw [List.take_length] at this
    rw [← hJ]; exact this)
  have HJ := Lib.hid hJ
  clear he hp hl hlen hjl hJ
  go_enter Tryz.func11, Tryz.ntmps11
  go_wp2_with fail
  go_at_call 14
  refine (sane02_any _ HE.out).mono ?_
  rintro e W1 ⟨rfl, hb⟩
  have B1 := Lib.hid hb
  clear hb
  go_wp2_with fail
  go_at_call 35
  refine (split_any S l s _ _ (HR.out.bl B1.out) HL.out HLEN.out).mono ?_
  rintro e W2 ⟨q, rfl, hq, hb⟩
  have B2 := Lib.hid (B1.out.trans (hb.mono B1.out.size))
  have HQ := Lib.hid hq
  clear hb hq
  go_wp2_with fail
  go_at_call 37
  refine (fJoin_any (fun _ => True) (splitP s l) s _ _ HQ.out HSL.out HJL.out).mono ?_
  rintro e W3 ⟨q3, rfl, hq, hb⟩
  rw [HJ.out] at hq
  have B3 := Lib.hid (B2.out.trans (hb.mono B2.out.size))
  have HQ3 := Lib.hid hq.read
  clear hb hq HQ
  go_upto_region 3 with fail
  go_cut [29] from 20 to 29 (fun b wx => b = .bool false ∧ Hid (Below W3.heap.size W3 wx))
  case first =>
    go_wp2_with fail
    go_at_call 20
    refine (alikeG_any (fun _ => True) S true (fsz J + 1) J l _ _ _ (Nat.lt_succ_self _) HQ3.out (HR.out.bl B3.out)).mono ?_
    rintro e W4 ⟨rfl, hb⟩
    have B4 := Lib.hid hb
    have HR4 := Lib.hid ((HR.out.bl B3.out).bl hb)
    clear hb
    obtain ⟨b, hb⟩ : ∃ b, alikeF true J l = b := ⟨_, rfl⟩
    have HBB := Lib.hid hb
    rw [hb]
    clear hb
    cases b
    · have hsg : signP s l = true := by
        cases h : signP s l with
        | true => rfl
        | false => have := HAL.out h; rw [HBB.out] at this; cases this
      have HSG := Lib.hid hsg
      clear hsg
      go_wp2_with fail
      go_at_call 45
      refine (signed_any S l s _ _ HR4.out).mono ?_
      rintro e W5 ⟨rfl, hW5⟩
      subst hW5
      rw [HSG.out]
      go_wp2_with fail
      go_meet
      exact ⟨rfl, B4⟩
    · go_wp2_with fail
      go_meet
      exact ⟨rfl, B4⟩
  case rest =>
    obtain ⟨rfl, HBC⟩ := hcut
    have hb5 := (Below.refl wc.heap.size wc).alloc (Nat.le_refl _) (.cells #[.int .i64 1, .int .i64 0, .string ⟨#[120]⟩, .int .i64 0, .int .i64 0, .string ⟨#[]⟩, .slice none 0 0] 52)
    have h9 := heap_alloc_new wc (.cells #[.int .i64 1, .int .i64 0, .string ⟨#[120]⟩, .int .i64 0, .int .i64 0, .string ⟨#[]⟩, .slice none 0 0] 52)
    have hs5 : (wc.alloc (.cells #[.int .i64 1, .int .i64 0, .string ⟨#[120]⟩, .int .i64 0, .int .i64 0, .string ⟨#[]⟩, .slice none 0 0] 52)).heap.size = wc.heap.size + 1 := World.size_alloc _ _
    have hone : FrRead ((wc.alloc (.cells #[.int .i64 1, .int .i64 0, .string ⟨#[120]⟩, .int .i64 0, .int .i64 0, .string ⟨#[]⟩, .slice none 0 0] 52)).alloc (.cells #[.int .i64 1, .int .i64 0, .string ⟨#[120]⟩, .int .i64 0, .int .i64 0, .string ⟨#[]⟩, .slice none 0 0] 52)) (fun _ => True) (.slice (some ⟨(wc.alloc (.cells #[.int .i64 1, .int .i64 0, .string ⟨#[120]⟩, .int .i64 0, .int .i64 0, .string ⟨#[]⟩, .slice none 0 0] 52)).heap.size, 0, none⟩) 1 1) [oneF] := one_read (W := wc.alloc (.cells #[.int .i64 1, .int .i64 0, .string ⟨#[120]⟩, .int .i64 0, .int .i64 0, .string ⟨#[]⟩, .slice none 0 0] 52)) oneF (FrRead.nil _ _ none 0)
    rw [hs5] at hone
    have hb6 := hb5.alloc (by rw [hs5]; exact Nat.le_succ _) (.cells #[.int .i64 1, .int .i64 0, .string ⟨#[120]⟩, .int .i64 0, .int .i64 0, .string ⟨#[]⟩, .slice none 0 0] 52)
    have hb56 := (Below.refl (wc.alloc (.cells #[.int .i64 1, .int .i64 0, .string ⟨#[120]⟩, .int .i64 0, .int .i64 0, .string ⟨#[]⟩, .slice none 0 0] 52)).heap.size (wc.alloc (.cells #[.int .i64 1, .int .i64 0, .string ⟨#[120]⟩, .int .i64 0, .int .i64 0, .string ⟨#[]⟩, .slice none 0 0] 52))).alloc (Nat.le_refl _) (.cells #[.int .i64 1, .int .i64 0, .string ⟨#[120]⟩, .int .i64 0, .int .i64 0, .string ⟨#[]⟩, .slice none 0 0] 52)
    have B6 := Lib.hid (B3.out.trans ((HBC.out.mono B3.out.size).trans (hb6.mono (Nat.le_trans B3.out.size HBC.out.size))))
    have h9b := (hb56.block wc.heap.size (by rw [hs5]; omega)).trans h9
    have H9B := Lib.hid h9b
    have hlk : Lens oneF.kids := lens_nil
    have hpl := put_ok (l := l) (path := path) HL.out hlk
    have hpb := put_bd (l := l) (path := path) HL.out hlk
    have HC41 := Lib.hid (fPut_any S (fun _ => True) l [oneF] path v vp (.slice (some ⟨wc.heap.size + 1, 0, none⟩) 1 1) _ (HR.out.bl B6.out) (HP.out.bl B6.out) hone (fun n c h => by cases h) HL.out hpl hpb)
    clear hlk hpl hpb
    obtain ⟨y0, y1, y2, y3, y4, y5, y6⟩ := fr_cells h9
    clear hb5 h9 hone hb6 hb56 h9b hs5
    go_wp2_with fail
    go_at_call 41
    refine HC41.out.mono ?_
    rintro e W6 ⟨hb, h⟩
    have B7 := Lib.hid (B6.out.trans (hb.mono B6.out.size))
    have hs6 : ((wc.alloc (.cells #[.int .i64 1, .int .i64 0, .string ⟨#[120]⟩, .int .i64 0, .int .i64 0, .string ⟨#[]⟩, .slice none 0 0] 52)).alloc (.cells #[.int .i64 1, .int .i64 0, .string ⟨#[120]⟩, .int .i64 0, .int .i64 0, .string ⟨#[]⟩, .slice none 0 0] 52)).heap.size = wc.heap.size + 2 := by rw [World.size_alloc, World.size_alloc]
    have h96 := (hb.block wc.heap.size (by rw [hs6]; omega)).trans H9B.out
    clear y0 y1 y2 y3 y4 y5 y6
    rcases h with ⟨hx, rfl⟩ | ⟨_, _, _, rfl⟩ | ⟨v', his, hne, hfit, rfl, hfr⟩
    · clear hb hx h96 hs6
      go_wp2_with fail
      go_ret
      exact ⟨rfl, B7.out⟩
    · clear hb h96 hs6
      go_wp2_with fail
      go_ret
      exact ⟨rfl, B7.out⟩
    · have H96 := Lib.hid h96
      have HFP := Lib.hid (fol_put path l oneF his hne)
      have HHN := Lib.hid hne
      have hlk : Lens oneF.kids := lens_nil
      have hpl := put_ok (l := l) (path := path) HL.out hlk his hne
      have HC39 := Lib.hid (fAt_any (fun _ => True) (putP l path [oneF]) path v' vp W6 hfr (HP.out.bl B7.out) hpl)
      clear hlk hpl
      clear hb his hne hfit hfr h96 hs6
      go_wp2_with fail
      go_at_call 39
      refine HC39.out.mono ?_
      rintro e W7 ⟨hb, h⟩
      rcases h with ⟨h | h, _⟩ | ⟨f, kv, hf, _, rfl, hkv⟩
      · rw [HFP.out] at h; cases h
      · exact absurd h HHN.out
      · obtain rfl : oneF = f := by
          rw [HFP.out] at hf
          simp only [Option.some.injEq, Prod.mk.injEq] at hf
          exact hf.2
        obtain ⟨ka, kc, rfl⟩ : ∃ a c, kv = .slice a 0 c := by obtain ⟨a, c, _, _, h, _⟩ := hkv; exact ⟨a, c, h⟩
        have B8 := Lib.hid (B7.out.trans (hb.mono B7.out.size))
        have h97 := (hb.block wc.heap.size (Array.getElem?_eq_some_iff.1 H96.out).1).trans H96.out
        have ha1 := (Below.refl W7.heap.size W7).alloc (Nat.le_refl _) (.cells #[.int .i64 oneF.tok.kind, .int .i64 oneF.tok.num, .string oneF.tok.text, .int .i64 oneF.tok.at_, .int .i64 oneF.tok.mark, .string oneF.op, .slice ka 0 kc] 52)
        have hsA : (W7.alloc (.cells #[.int .i64 oneF.tok.kind, .int .i64 oneF.tok.num, .string oneF.tok.text, .int .i64 oneF.tok.at_, .int .i64 oneF.tok.mark, .string oneF.op, .slice ka 0 kc] 52)).heap.size = W7.heap.size + 1 := World.size_alloc _ _
        have hsB : ((W7.alloc (.cells #[.int .i64 oneF.tok.kind, .int .i64 oneF.tok.num, .string oneF.tok.text, .int .i64 oneF.tok.at_, .int .i64 oneF.tok.mark, .string oneF.op, .slice ka 0 kc] 52)).alloc (.cells #[.int .i64 oneF.tok.kind, .int .i64 oneF.tok.num, .string oneF.tok.text, .int .i64 oneF.tok.at_, .int .i64 oneF.tok.mark, .string oneF.op, .slice ka 0 kc] 52)).heap.size = W7.heap.size + 1 + 1 := by rw [World.size_alloc, World.size_alloc]
        have hr1 : FrRead ((W7.alloc (.cells #[.int .i64 oneF.tok.kind, .int .i64 oneF.tok.num, .string oneF.tok.text, .int .i64 oneF.tok.at_, .int .i64 oneF.tok.mark, .string oneF.op, .slice ka 0 kc] 52)).alloc (.cells #[.int .i64 oneF.tok.kind, .int .i64 oneF.tok.num, .string oneF.tok.text, .int .i64 oneF.tok.at_, .int .i64 oneF.tok.mark, .string oneF.op, .slice ka 0 kc] 52)) (fun _ => True) (.slice (some ⟨(W7.alloc (.cells #[.int .i64 oneF.tok.kind, .int .i64 oneF.tok.num, .string oneF.tok.text, .int .i64 oneF.tok.at_, .int .i64 oneF.tok.mark, .string oneF.op, .slice ka 0 kc] 52)).heap.size, 0, none⟩) 1 1) [oneF] := one_read (W := W7.alloc (.cells #[.int .i64 oneF.tok.kind, .int .i64 oneF.tok.num, .string oneF.tok.text, .int .i64 oneF.tok.at_, .int .i64 oneF.tok.mark, .string oneF.op, .slice ka 0 kc] 52)) oneF (hkv.bl ha1)
        have hr2 : FrRead (((W7.alloc (.cells #[.int .i64 oneF.tok.kind, .int .i64 oneF.tok.num, .string oneF.tok.text, .int .i64 oneF.tok.at_, .int .i64 oneF.tok.mark, .string oneF.op, .slice ka 0 kc] 52)).alloc (.cells #[.int .i64 oneF.tok.kind, .int .i64 oneF.tok.num, .string oneF.tok.text, .int .i64 oneF.tok.at_, .int .i64 oneF.tok.mark, .string oneF.op, .slice ka 0 kc] 52)).alloc (.cells #[.int .i64 1, .int .i64 0, .string ⟨#[120]⟩, .int .i64 0, .int .i64 0, .string ⟨#[]⟩, .slice none 0 0] 52)) (fun _ => True) (.slice (some ⟨((W7.alloc (.cells #[.int .i64 oneF.tok.kind, .int .i64 oneF.tok.num, .string oneF.tok.text, .int .i64 oneF.tok.at_, .int .i64 oneF.tok.mark, .string oneF.op, .slice ka 0 kc] 52)).alloc (.cells #[.int .i64 oneF.tok.kind, .int .i64 oneF.tok.num, .string oneF.tok.text, .int .i64 oneF.tok.at_, .int .i64 oneF.tok.mark, .string oneF.op, .slice ka 0 kc] 52)).heap.size, 0, none⟩) 1 1) [oneF] := one_read (W := (W7.alloc (.cells #[.int .i64 oneF.tok.kind, .int .i64 oneF.tok.num, .string oneF.tok.text, .int .i64 oneF.tok.at_, .int .i64 oneF.tok.mark, .string oneF.op, .slice ka 0 kc] 52)).alloc (.cells #[.int .i64 oneF.tok.kind, .int .i64 oneF.tok.num, .string oneF.tok.text, .int .i64 oneF.tok.at_, .int .i64 oneF.tok.mark, .string oneF.op, .slice ka 0 kc] 52)) oneF (FrRead.nil _ _ none 0)
        rw [hsA] at hr1
        rw [hsB] at hr2
        have hbB := (Below.refl ((W7.alloc (.cells #[.int .i64 oneF.tok.kind, .int .i64 oneF.tok.num, .string oneF.tok.text, .int .i64 oneF.tok.at_, .int .i64 oneF.tok.mark, .string oneF.op, .slice ka 0 kc] 52)).alloc (.cells #[.int .i64 oneF.tok.kind, .int .i64 oneF.tok.num, .string oneF.tok.text, .int .i64 oneF.tok.at_, .int .i64 oneF.tok.mark, .string oneF.op, .slice ka 0 kc] 52)).heap.size ((W7.alloc (.cells #[.int .i64 oneF.tok.kind, .int .i64 oneF.tok.num, .string oneF.tok.text, .int .i64 oneF.tok.at_, .int .i64 oneF.tok.mark, .string oneF.op, .slice ka 0 kc] 52)).alloc (.cells #[.int .i64 oneF.tok.kind, .int .i64 oneF.tok.num, .string oneF.tok.text, .int .i64 oneF.tok.at_, .int .i64 oneF.tok.mark, .string oneF.op, .slice ka 0 kc] 52))).alloc (Nat.le_refl _) (.cells #[.int .i64 1, .int .i64 0, .string ⟨#[120]⟩, .int .i64 0, .int .i64 0, .string ⟨#[]⟩, .slice none 0 0] 52)
        have hbA := (Below.refl (W7.alloc (.cells #[.int .i64 oneF.tok.kind, .int .i64 oneF.tok.num, .string oneF.tok.text, .int .i64 oneF.tok.at_, .int .i64 oneF.tok.mark, .string oneF.op, .slice ka 0 kc] 52)).heap.size (W7.alloc (.cells #[.int .i64 oneF.tok.kind, .int .i64 oneF.tok.num, .string oneF.tok.text, .int .i64 oneF.tok.at_, .int .i64 oneF.tok.mark, .string oneF.op, .slice ka 0 kc] 52))).alloc (Nat.le_refl _) (.cells #[.int .i64 oneF.tok.kind, .int .i64 oneF.tok.num, .string oneF.tok.text, .int .i64 oneF.tok.at_, .int .i64 oneF.tok.mark, .string oneF.op, .slice ka 0 kc] 52)
        have lt7 := (Array.getElem?_eq_some_iff.1 h97).1
        have h9A := (ha1.block wc.heap.size lt7).trans h97
        have h9C := (hbA.block wc.heap.size (by rw [hsA]; omega)).trans h9A
        obtain ⟨z0, z1, z2, z3, z4, z5, z6⟩ := fr_cells h9C
        have HC20 := Lib.hid (alikeS_any (fun _ => True) (fun _ => True) (fsz [oneF] + 1) [oneF] _ _ _ (Nat.lt_succ_self _) (hr1.bl hbB) hr2)
        have B9 := Lib.hid (B8.out.trans ((((ha1.trans (hbA.mono (by rw [hsA]; exact Nat.le_succ _)))).trans (hbB.mono (by rw [hsB]; omega))).mono B8.out.size))
        clear hb hf hkv h97 ha1 hsA hsB hr1 hr2 hbB hbA h9A h9C
        go_wp2_with fail
        go_at_call 20
        refine HC20.out.mono ?_
        rintro e W8 ⟨rfl, hb8⟩
        have HBF := Lib.hid (B9.out.trans (hb8.mono B9.out.size))
        clear hb8
        go_wp2_with fail
        go_ret
        exact ⟨rfl, HBF.out⟩
end Go.Proofs.YtopbmndjnjnmcaaGreatDoor
namespace Go.Proofs.YtopbmndjnjnmcaaGreatDoor
open Go.RowKit Lx Go.Sort
/- (P12) -/
section
open Go.ChangeShapes Go.WideShapes Go.ChangeAt
variable {H : Type} {enc : TypeId × Value → H}
theorem cells3i : Tryz.prog.cellsOf 3 = 1 := by kernel_rfl
set_option maxRecDepth 100000 in
/-- A path. -/
theorem open_path {W : World} {v : Value} {base : Nat} {d : DataW H} {p : List MemPlace} (hv : Value.okWide Tryz.prog W .any base 48 v) (h : DataW.Trod enc Tryz.prog W 0 (fun _ => true) true 48 v d p) :
    ∃ path : List Int, IntsAt W v path := by
  obtain ⟨a0, len, cap, rfl⟩ := okWide_slice Tryz.underlying48 hv
  obtain ⟨fuel, hf⟩ := h
  rcases open_ints Tryz.underlying48 Tryz.underlying3 cells3i hf with ⟨hcs, hx⟩ | ⟨a, len', cap', zs, hcs, _, hl, hm, hz, hx, hcell, _⟩
  · simp [Value.cells] at hcs
    obtain ⟨rfl, rfl, rfl⟩ := hcs
    exact ⟨[], none, 0, rfl, by simp, fun k t hk => by simp at hk⟩
  · simp [Value.cells] at hcs
    obtain ⟨rfl, rfl, rfl⟩ := hcs
    simp only [if_true] at hz
    have hlt : (zs.take len).length = len := by rw [List.length_take]; omega
    refine ⟨zs.take len, some a, cap, by rw [hlt], by omega, fun k i hk => ?_⟩
    have hkl : k < len := by have := (List.getElem?_eq_some_iff.1 hk).1; omega
    have hk' : zs[k]? = some i := by rw [List.getElem?_take_of_lt hkl] at hk; exact hk
    have z0 := hcell 0 (by omega)
    have z := hcell k (by omega)
    obtain ⟨ea, _⟩ := cell_add z0 0
    rw [(cell_add z0 k).2] at z
    refine ⟨a.block, a.off, congrArg some ea, (by simpa [Addr.add] using block_of_cell z0), ?_⟩
    rw [z, List.getD, hk']; rfl
theorem frags_reach {ts : List TypeId} {ds : List (DataW H)} {d : DataW H} {l : List Fr} (hsz : (DataW.weightsEach Tryz.prog ts ds).all (· ≤ reachBytes) = true) {j : Nat} (htj : ts[j]? = some 25) (hdj : ds[j]? = some d)
    (hd : (d = .nil ∧ l = []) ∨ ∃ elems spare, d = .slice elems spare ∧ elems.length = l.length) : l.length * 88 ≤ 140737488351232 := by
  rcases hd with ⟨_, rfl⟩ | ⟨elems, spare, rfl, he⟩
  · exact Nat.zero_le _
  · have h := sized_slice hsz htj hdj Tryz.underlying25
    rw [bytes52] at h
    unfold reachBytes at h
    omega
end
end Go.Proofs.YtopbmndjnjnmcaaGreatDoor
