/- Package lex: next. -/
import Derived.WalkKit
import Derived.WalkLawsBesides
import Derived.WalkSpells
import Derived.WalkSmall
import Derived.Lib.Hide
import Derived.BigQuiet
import Derived.Deep.QuietTactic
import Derived.Test.YtopbmndjnjnmcaaGreatDoorA11
namespace Go.Proofs.YtopbmndjnjnmcaaGreatDoor
open Go.RowKit Lx

theorem qPlain_le (l : Bs) : qPlain l ≤ l.length := by simpa [qPlain] using qGo_le l 0 0 false (by omega)
theorem ite_le (c : Bool) (a b m : Nat) (ha : a ≤ m) (hb : b ≤ m) : (if c = true then a else b) ≤ m := by cases c <;> simpa
theorem qName_le (l : Bs) : qName l ≤ l.length := by
  have h := qPlain_le l
  unfold qName; simp only
  by_cases hx : qPlain l + 1 < l.length
  · have h3 := qRun_le 5 (l.drop (qPlain l + 2)); simp only [List.length_drop] at h3
    exact ite_le _ _ _ _ (by omega) h
  · rw [List.getElem?_eq_none (i := qPlain l + 1) (by omega)]
    show (if (_ && _ && false) = true then _ else _) ≤ _
    rw [Bool.and_false]; exact h
theorem qInt_le (l : Bs) (op : Bool) : qInt l op ≤ l.length := by
  unfold qInt; simp only
  by_cases h : (l.head? == some 45 && !op) = true
  · simp only [h, if_true]
    have h3 := qRun_le 1 (l.drop 1); simp only [List.length_drop] at h3
    split
    · omega
    · omega
  · simp only [h, if_false, Bool.false_eq_true]
    have h3 := qRun_le 1 (l.drop 0); simp at h3
    split
    · simpa using h3
    · omega
theorem qKey_le (l : Bs) : qKey l ≤ l.length := by
  have h := qPlain_le l
  unfold qKey; simp only; split
  · rename_i hc
    simp only [Bool.and_eq_true] at hc
    have := qColon_len _ hc.2; simp at this; omega
  · omega
theorem qHash_le (l : Bs) : qHash l ≤ l.length := by
  unfold qHash; split
  · rename_i hc
    match l, hc with
    | [], hc => exact absurd hc (by decide)
    | [a], hc => simp at hc
    | a :: b :: t, _ => simp
  · omega
theorem qSign_le (l : Bs) : qSign l ≤ l.length := by
  match l with
  | [] => decide
  | [a] => simp only [qSign]; split
           · rename_i hc; simp [qTwo] at hc
           · simp; split <;> omega
  | a :: b :: t =>
    unfold qSign; split
    · simp
    · simp; split <;> omega
theorem qPat_le (l : Bs) : qPat l ≤ l.length := by
  unfold qPat; split
  · simp only; split
    · omega
    · have h1 := qPlain_le (l.drop 1)
      have h2 := qPlain_le (l.drop (qPlain (l.drop 1) + 2))
      simp only [List.length_drop] at h1 h2
      split
      · rename_i hc
        simp only [Bool.and_eq_true, decide_eq_true_eq] at hc
        omega
      · omega
  · omega
theorem qLen_le (l : Bs) (op : Bool) (k : Nat) : qLen l op k ≤ l.length := by
  unfold qLen; split
  · exact qName_le l
  · exact qInt_le l op
  · exact qKey_le l
  · exact qHash_le l
  · exact qSign_le l
  · exact qPat_le l
theorem qB_le (l : Bs) (op : Bool) (k : Nat) : (qB l op k).2 ≤ l.length ∧ (qB l op k).1 ≤ k := by
  induction k with
  | zero => simp [qB]
  | succ k ih =>
    simp only [qB, qBetter]; split
    · exact ⟨qLen_le l op k, by omega⟩
    · exact ⟨ih.1, by omega⟩
theorem qLongest_le (l : Bs) (op : Bool) : (qLongest l op).2 ≤ l.length ∧ (qLongest l op).1 ≤ 6 := qB_le l op 6

/-- The piece at an offset: an error, the kind, how much it takes. -/
structure Cutted where
  er : Nat
  kind : Nat
  len : Nat
def qNext (l : Bs) (i : Nat) (op : Bool) : Cutted :=
  if (qComment (l.drop i)).1 ≠ 0 then ⟨(qComment (l.drop i)).1, 0, 0⟩
  else if 0 < (qComment (l.drop i)).2 then ⟨0, 8, (qComment (l.drop i)).2⟩
  else if 0 < qRun 7 (l.drop i) then ⟨0, 7, qRun 7 (l.drop i)⟩
  else if qCheck l i (qLongest ((l.drop i).take 100) op).1 (qLongest ((l.drop i).take 100) op).2 ≠ 0 then ⟨qCheck l i (qLongest ((l.drop i).take 100) op).1 (qLongest ((l.drop i).take 100) op).2, 0, 0⟩
  else ⟨0, (qLongest ((l.drop i).take 100) op).1, (qLongest ((l.drop i).take 100) op).2⟩

def endPiece (c : Cutted) (i : Nat) : Ending := if c.er = 0 then .returned (.agg #[.int .i64 (c.kind : Int), .int .i64 (i : Int), .int .i64 (c.len : Int)]) else refusal c.er i

theorem longest_ex (s : ByteArray) (b i t : Nat) (op : Bool) (hi : i < s.size) (hs : s.size ≤ 20000) (w : World) (hc : Cut w b s i t op) :
    Calls Tryz.prog 159 #[.pointer (some ⟨b, 0, none⟩)] w fun e w' => ∃ k n : Nat, e = .returned (.tuple #[.int .i64 k, .int .i64 n]) ∧ Hid (qLongest ((s.data.toList.drop i).take 100) op = (k, n)) ∧ n ≤ 100 ∧ i + n ≤ s.size ∧ k ≤ 6 ∧ Below w.heap.size w w' := by
  refine (longest_any s b i t op hi hs w hc).mono ?_
  rintro e w' ⟨rfl, hb⟩
  have h := qLongest_le (qLook s i) op
  have h2 : (qLook s i).length = min 100 (s.size - i) := by simp [qLook]
  exact ⟨_, _, rfl, Lib.hid rfl, by omega, by omega, h.2, hb⟩

theorem cells3 {w : World} {r : Nat} {a b c : Value} {t : TypeId} (h : w.heap[r]? = some (.cells #[a, b, c] t (0, 0))) :
    w.cell? ⟨r, 0, none⟩ = some a ∧ w.cell? ⟨r, 1, none⟩ = some b ∧ w.cell? ⟨r, 2, none⟩ = some c ∧ w.frozen? ⟨r, 0, none⟩ = false ∧ w.frozen? ⟨r, 1, none⟩ = false ∧ w.frozen? ⟨r, 2, none⟩ = false := by
  refine ⟨?_, ?_, ?_, ?_, ?_, ?_⟩ <;> simp [World.cell?, World.frozen?, h]

theorem below3 {B r : Nat} {a W : World} (h : Below B a W) (hr : B ≤ r) (x y z : Value) : Below B a (((W.setCell ⟨r, 0, none⟩ x).setCell ⟨r, 1, none⟩ y).setCell ⟨r, 2, none⟩ z) :=
  ((h.setCell (p := ⟨r, 0, none⟩) hr x).setCell (p := ⟨r, 1, none⟩) hr y).setCell (p := ⟨r, 2, none⟩) hr z

set_option maxHeartbeats 4000000 in
theorem next_any (s : ByteArray) (b i t : Nat) (op : Bool) (hi : i < s.size) (hs : s.size ≤ 20000) (w : World) (hc : Cut w b s i t op) (he : Env w) :
    Calls Tryz.prog 142 #[.pointer (some ⟨b, 0, none⟩)] w fun e w' => e = endPiece (qNext s.data.toList i op) i ∧ Below w.heap.size w w' := by
  have HC := Lib.hid hc
  have HE := Lib.hid he
  clear hc he
  have hb0 := (Below.refl w.heap.size w).alloc (Nat.le_refl _) (.cells #[.int .i64 0, .int .i64 0, .int .i64 0] 127)
  go_enter Tryz.func142, Tryz.ntmps142
  go_wp2_with fail
  refine (comment_any s b i t op (by omega) hs _ (HC.out.below hb0)).mono ?_
  rintro e w1 ⟨rfl, hb1⟩
  have hb1' := bt hb0 hb1
  have lb := (HC.out.below hb1').lt
  have hr1 : Hid (w1.heap[w.heap.size]? = some (.cells #[.int .i64 0, .int .i64 0, .int .i64 0] 127 (0, 0))) := Lib.hid ((hb1.block w.heap.size (by simp)).trans (World.alloc_heap_new w _))
  have HC1 := Lib.hid (HC.out.below hb1')
  by_cases he0 : (qComment (s.data.toList.drop i)).1 = 0
  · have he : endLen (qComment (s.data.toList.drop i)) i = .returned (.int .i64 ((qComment (s.data.toList.drop i)).2 : Int)) := if_pos he0
    rw [he]
    clear he
    obtain ⟨m, hm⟩ : ∃ m, (qComment (s.data.toList.drop i)).2 = m := ⟨_, rfl⟩
    rw [hm]
    by_cases hm0 : 0 < m
    · have hv : Hid (qNext s.data.toList i op = ⟨0, 8, m⟩) := Lib.hid (by unfold qNext; rw [if_neg (by simp [he0]), hm, if_pos hm0])
      clear hm he0
      obtain ⟨r0, r1, r2, q0, q1, q2⟩ := cells3 hr1.out
      obtain ⟨_, c1, _, _⟩ := HC1.out
      go_wp2_with fail
      refine bodyPost_ret (v := .agg #[.int .i64 8, .int .i64 i, .int .i64 m]) (by simp [results, Tryz.results142, go_sem, r0, r1, r2]) rfl ⟨?_, below3 hb1' (Nat.le_refl _) _ _ _⟩
      unfold endPiece; rw [hv.out, if_pos rfl]; rfl
    · have hv : Hid (∀ x, (if 0 < qRun 7 (s.data.toList.drop i) then (⟨0, 7, qRun 7 (s.data.toList.drop i)⟩ : Cutted)
          else if qCheck s.data.toList i (qLongest ((s.data.toList.drop i).take 100) op).1 (qLongest ((s.data.toList.drop i).take 100) op).2 ≠ 0 then ⟨qCheck s.data.toList i (qLongest ((s.data.toList.drop i).take 100) op).1 (qLongest ((s.data.toList.drop i).take 100) op).2, 0, 0⟩
          else ⟨0, (qLongest ((s.data.toList.drop i).take 100) op).1, (qLongest ((s.data.toList.drop i).take 100) op).2⟩) = x → qNext s.data.toList i op = x) := by
        intro x hx; unfold qNext; rw [if_neg (by simp [he0]), hm, if_neg hm0]; exact hx
      clear hm he0
      go_wp2_with fail
      refine (rest_r s b i t op (by omega) _ HC1.out).mono ?_
      rintro e w' ⟨r, q, rfl, rfl, hR, hz⟩
      go_wp2_with fail
      refine (run7_any r (by rw [hz.out]; omega) _).mono ?_
      rintro e w2 ⟨k, rfl, hK, hk, hb2⟩
      rw [hR.out] at hK
      have hb2' := bt (bl w1 q) hb2
      have hbw2 := bt hb1' hb2'
      have HC2 := Lib.hid (HC1.out.below hb2')
      have hr2 : Hid (w2.heap[w.heap.size]? = some (.cells #[.int .i64 0, .int .i64 0, .int .i64 0] 127 (0, 0))) := Lib.hid ((hb2'.block w.heap.size (Array.getElem?_eq_some_iff.1 hr1.out).1).trans hr1.out)
      by_cases hk0 : 0 < k
      · have hv2 : Hid (qNext s.data.toList i op = ⟨0, 7, k⟩) := Lib.hid (hv.out _ (by rw [hK.out, if_pos hk0]))
        obtain ⟨r0, r1, r2, q0, q1, q2⟩ := cells3 hr2.out
        obtain ⟨_, c1, _, _⟩ := HC2.out
        have lb2 := HC2.out.lt
        go_wp2_with fail
        refine bodyPost_ret (v := .agg #[.int .i64 7, .int .i64 i, .int .i64 k]) (by simp [results, Tryz.results142, go_sem, r0, r1, r2]) rfl ⟨?_, below3 hbw2 (Nat.le_refl _) _ _ _⟩
        unfold endPiece; rw [hv2.out, if_pos rfl]; rfl
      · have hv2 : Hid (∀ x, (if qCheck s.data.toList i (qLongest ((s.data.toList.drop i).take 100) op).1 (qLongest ((s.data.toList.drop i).take 100) op).2 ≠ 0 then (⟨qCheck s.data.toList i (qLongest ((s.data.toList.drop i).take 100) op).1 (qLongest ((s.data.toList.drop i).take 100) op).2, 0, 0⟩ : Cutted)
          else ⟨0, (qLongest ((s.data.toList.drop i).take 100) op).1, (qLongest ((s.data.toList.drop i).take 100) op).2⟩) = x → qNext s.data.toList i op = x) := by
          intro x hx; exact hv.out x (by rw [hK.out, if_neg hk0]; exact hx)
        go_wp2_with fail
        refine (longest_ex s b i t op hi hs _ HC2.out).mono ?_
        rintro e w3 ⟨kd, n, rfl, hL, hn1, hn2, _, hb3⟩
        have HC3 := Lib.hid (HC2.out.below hb3)
        have hbw3 := bt hbw2 hb3
        have hr3 : Hid (w3.heap[w.heap.size]? = some (.cells #[.int .i64 0, .int .i64 0, .int .i64 0] 127 (0, 0))) := Lib.hid ((hb3.block w.heap.size (Array.getElem?_eq_some_iff.1 hr2.out).1).trans hr2.out)
        go_wp2_with fail
        refine (check_any s b i t n kd op hi hn1 hn2 hs _ HC3.out (HE.out.below hbw3)).mono ?_
        rintro e w4 ⟨rfl, hb4⟩
        have HC4 := Lib.hid (HC3.out.below hb4)
        have hbw4 := bt hbw3 hb4
        have hr4 : Hid (w4.heap[w.heap.size]? = some (.cells #[.int .i64 0, .int .i64 0, .int .i64 0] 127 (0, 0))) := Lib.hid ((hb4.block w.heap.size (Array.getElem?_eq_some_iff.1 hr3.out).1).trans hr3.out)
        by_cases hq : qCheck s.data.toList i kd n = 0
        · have hv3 : Hid (qNext s.data.toList i op = ⟨0, kd, n⟩) := Lib.hid (hv2.out _ (by rw [hL.out]; simp [hq]))
          rw [if_pos hq]
          clear hq
          obtain ⟨r0, r1, r2, q0, q1, q2⟩ := cells3 hr4.out
          obtain ⟨_, c1, _, _⟩ := HC4.out
          have lb4 := HC4.out.lt
          go_wp2_with fail
          refine bodyPost_ret (v := .agg #[.int .i64 kd, .int .i64 i, .int .i64 n]) (by simp [results, Tryz.results142, go_sem, r0, r1, r2]) rfl ⟨?_, below3 hbw4 (Nat.le_refl _) _ _ _⟩
          unfold endPiece; rw [hv3.out, if_pos rfl]
        · have hv3 : Hid (qNext s.data.toList i op = ⟨qCheck s.data.toList i kd n, 0, 0⟩) := Lib.hid (hv2.out _ (by rw [hL.out]; simp [hq]))
          have hend : Hid (endPiece (qNext s.data.toList i op) i = refusal (qCheck s.data.toList i kd n) i) := Lib.hid (by unfold endPiece; rw [hv3.out]; exact if_neg hq)
          rw [if_neg hq]
          clear hq
          unfold refusal at hend ⊢
          go_wp2_with fail
          exact ⟨rfl, hend.out.symm, hbw4⟩
  · have he : endLen (qComment (s.data.toList.drop i)) i = refusal (qComment (s.data.toList.drop i)).1 i := if_neg he0
    have hv : Hid (qNext s.data.toList i op = ⟨(qComment (s.data.toList.drop i)).1, 0, 0⟩) := Lib.hid (by unfold qNext; rw [if_pos he0])
    have hend : Hid (endPiece (qNext s.data.toList i op) i = refusal (qComment (s.data.toList.drop i)).1 i) := Lib.hid (by unfold endPiece; rw [hv.out]; exact if_neg he0)
    rw [he]
    clear he he0
    unfold refusal at hend ⊢
    go_wp2_with fail
    exact ⟨rfl, hend.out.symm, hb1'⟩
end Go.Proofs.YtopbmndjnjnmcaaGreatDoor
