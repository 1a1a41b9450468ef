/- Package lex: recut. -/
import Derived.Test.YtdfkkeeohbgmbaaGreatDoorA26
namespace Go.Proofs.YtdfkkeeohbgmbaaGreatDoor
open Go.RowKit Lx

attribute [local go_sem] Oper.semAt_some

set_option maxHeartbeats 2000000 in
theorem recut_big (was now ins : ByteArray) (x d : Nat) (aa : Option Addr) (an ca : Nat) (hns : 20000 < now.size) (hm : now.size ≤ maxLen) (w : World) :
    CallsIn Fence.wide 2 Tryz.prog 53 #[.string was, .string now, .slice aa an ca, SpV x d ins] w fun e W => e = refusal 2 0 ∧ Below w.heap.size w W := by
  unfold SpV
  refine callsIn_of_wp_marks Tryz.func53 rfl trivial ?_ rfl
  simp only [Tryz.ntmps53, List.size_toArray, List.length_cons, List.length_nil, Nat.reduceAdd, Nat.reduceSub, Array.replicate_succ, Array.replicate_zero, List.push_toArray, List.append_toArray, List.nil_append, List.cons_append]
  refine wpIn_wide.2 ?_
  go_wp2_with fail
  refine (newCutter_bad now hns hm _).mono ?_
  rintro e W1 ⟨rfl, hb1⟩
  have hb : Below w.heap.size w W1 := bt (((Below.refl _ w).alloc (Nat.le_refl _) _).alloc (by simp) _) hb1
  clear hb1
  unfold refusal
  go_wp2_with fail
  exact ⟨rfl, hb⟩

/-- How recut ends, by the pieces of the new text. -/
def RecEnd2 (l : Bs) (base : Nat) (e : Ending) (W : World) : Prop :=
  ((qPieces l).2 = none ∧ ∃ vo, e = .returned vo ∧ W.ownsRow base 59 3 vo (qPieces l).1.length (pcsCells (qPieces l).1) ∧ (vo = .slice none 0 0 ↔ (qPieces l).1 = [])) ∨
  (∃ er i, (qPieces l).2 = some (er, i) ∧ e = refusal er i)

theorem extract_append (a b : ByteArray) : (a ++ b).data.toList = a.data.toList ++ b.data.toList := by simp
theorem spliced_list (s ins : ByteArray) (x d : Nat) : (spliced s x d ins).data.toList = s.data.toList.take x ++ ins.data.toList ++ s.data.toList.drop (x + d) := by
  unfold spliced
  simp
  exact List.take_of_length_le (by simp)

theorem spliced_size (s ins : ByteArray) (x d : Nat) (hx : x ≤ s.size) (hd : d ≤ s.size - x) : (spliced s x d ins).size = s.size + ins.size - d := by
  have h := congrArg List.length (spliced_list s ins x d)
  simp at h
  omega

/-- **recut** -/
theorem recut_any (was ins : ByteArray) (x d : Nat) (v : Value) (hx : x ≤ was.size) (hd : d ≤ was.size - x) (hns : (spliced was x d ins).size ≤ maxLen)
    (hold : (qPieces was.data.toList).2 = none) (w : World) (he : Env w) (hv : PnRead w v ((qPieces was.data.toList).1.map Pc.n)) :
    Calls Tryz.prog 53 #[.string was, .string (spliced was x d ins), v, SpV x d ins] w fun e W => RecEnd2 (spliced was x d ins).data.toList w.heap.size e W ∧ Below w.heap.size w W := by
  have hws := qPieces_small _ hold
  simp only [Array.length_toList, ByteArray.size_data] at hws
  have hsz := spliced_size was ins x d hx hd
  have hlist := spliced_list was ins x d
  obtain ⟨now, hnow⟩ : ∃ now, spliced was x d ins = now := ⟨_, rfl⟩
  rw [hnow] at hns hsz hlist ⊢
  obtain ⟨aa, ca, rfl, hr⟩ := hv
  have hv : PnRead w (.slice aa ((qPieces was.data.toList).1.map Pc.n).length ca) ((qPieces was.data.toList).1.map Pc.n) := ⟨aa, ca, rfl, hr⟩
  refine (callsIn_wide (n := 2)).1 ?_
  by_cases hn : now.size ≤ 20000
  · have hq : qPieces was.data.toList = qFrom was.data.toList ⟨0, 0, false⟩ := if_neg (by simp; omega)
    have hq2 : qPieces now.data.toList = qFrom now.data.toList ⟨0, 0, false⟩ := if_neg (by simp; omega)
    refine (recut_in was now ins x d _ (qPieces was.data.toList).1 hws hn hx (by omega) (by omega) ?_ (qPieces_length _) ?_ ?_ w he hv).mono ?_
    · rw [← hq]; exact Prod.ext rfl hold
    · rw [hlist, List.append_assoc, List.take_append_of_le_length (by simp; omega), List.take_take, Nat.min_self]
    · intro i j hi2 hj
      rw [hlist, List.append_assoc, List.drop_append, List.drop_append, List.drop_drop]
      rw [List.drop_eq_nil_of_le (by simp; omega), List.drop_eq_nil_of_le (by simp; omega), List.nil_append, List.nil_append]
      congr 1
      simp
      omega
    · rintro e W ⟨h, hb⟩
      refine ⟨?_, hb⟩
      unfold RecEnd2
      rw [hq2]
      rcases h with ⟨vo, ps, h1, h2, h3, h4⟩ | ⟨ps, er, i, h1, h2⟩
      · rw [h1]; exact .inl ⟨rfl, vo, h2, h3, h4⟩
      · rw [h1]; exact .inr ⟨er, i, rfl, h2⟩
  · refine (recut_big was now ins x d _ _ _ (by omega) hns w).mono ?_
    rintro e W ⟨h, hb⟩
    exact ⟨.inr ⟨2, 0, by rw [qPieces_big _ (by simpa using hn)], h⟩, hb⟩
end Go.Proofs.YtdfkkeeohbgmbaaGreatDoor
